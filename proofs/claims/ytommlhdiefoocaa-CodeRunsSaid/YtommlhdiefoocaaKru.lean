/- The fixed-point machine: Run by the reference. -/
import Derived.Test.YtommlhdiefoocaaKrt
import Derived.Test.YtommlhdiefoocaaKrs
set_option linter.unusedVariables false
namespace Go.Proofs.Ytommlhdiefoocaa
open Go Go.RowKit
/-- What the reference's run returns. -/
def RRunR (G : Pgm) (c IN : Nat → Int) (w : World) (e : Ending) (w' : World) : Prop := ∃ A k B l, e = .returned (.tuple #[.agg #[.slice A G.nc k, .slice B G.no l, .bool (runC G.X IN c G.ni).2], I 0]) ∧ Ri w' A G.nc (runC G.X IN c G.ni).1 ∧
  Ri w' B G.no (fun i => (runC G.X IN c G.ni).1 (G.O i).toNat) ∧ Ext w w'
set_option maxRecDepth 100000 in
set_option maxHeartbeats 1000000 in
theorem RRun_ok {w : World} {G : Pgm} {p : Pp} {A B : Option Addr} {cA m cB : Nat} {c IN : Nat → Int} (d : Pm w G p) (h : chP G = 0) (ra : Ri w A G.nc c) (rb : Ri w B m IN) (hA : A = none → cA = 0) (h2 : daE G G.nc c m IN = 0) :
    Calls Try.prog 21 #[pgv G p, .slice A G.nc cA, .slice B m cB] w (RRunR G c IN w) := by
  have ok := chP_ok h
  obtain ⟨_, hwd, hmp, hin⟩ := daE_0 h2
  have n1 := ok.np
  have n2 := ok.nc
  have n3 := ok.ni
  have n4 := ok.no
  have h3' : ((m : Int) != (G.np : Int)) = false := by simp [hmp]
  have HGOOD := Lib.hid (wdE_0.1 (show wdE G.nc c = 0 from wdE_0.2 fun i hi => hwd i hi))
  have HGD := Lib.hid hin
  have OK := Lib.hid ok
  have HWD : Hid (∀ i, i < G.nc → wdB (c i) = true) := Lib.hid hwd
  have HIN : Hid (∀ i, i < m → wdB (IN i) = true) := fun i hi => by
    have h1 := hin i (by omega)
    have h3 := ok.prt i (by omega)
    have h4 : -2147483648 ≤ (G.P i).lo ∧ (G.P i).lo ≤ (G.P i).hi ∧ (G.P i).hi < 2147483648 := by
      unfold prtE at h3; split at h3
      · rename_i q; omega
      · omega
    exact wdB_iff.2 (by omega)
  have HMP := Lib.hid hmp
  have HX' := Lib.hid d.code
  have HOo := Lib.hid d.outs
  have HP := Lib.hid d.ports
  have HI := Lib.hid rb
  have HA := Lib.hid ra
  have HNA := Lib.hid hA
  have hml : m ≤ 16 := by omega
  clear d h h2 ra rb ok hwd hmp hin hA
  obtain ⟨W1, hW1⟩ : ∃ W1, W1 = (w.alloc (.cells #[.slice p.AP G.np p.cP, .slice p.AC G.nc p.cC, .slice p.AX G.ni p.cX, .slice p.AO G.no p.cO] 26)).alloc (.cells #[.slice none 0 0, .slice none 0 0, .bool false] 35) := ⟨_, rfl⟩
  obtain ⟨b1, b2, b3, b4⟩ := run_boxes w G p _ _ hW1
  have HB := Lib.hid b1
  obtain ⟨c0, c1, c2, c3⟩ := b1
  have HF := Lib.hid b4
  have HE := Lib.hid b3
  have HZ := Lib.hid b2
  clear b4 b3 b2
  go_enter Try.func21, Try.ntmps21
  go_upto_region 1 with fail
  rw [← hW1]; clear hW1
  go_wp2_with fail
  clear c0 c1 c2 c3
  go_loopw [28] (fun s wr => ∃ j : Nat, j ≤ G.nc ∧ s = I j ∧ Hid (Ext W1 wr)) (fun s _ => G.nc - (intOf s).toNat)
  case atStart => exact ⟨0, Nat.zero_le _, rfl, Lib.hid (Ext.refl _)⟩
  case round =>
    obtain ⟨j, hj, rfl, HX0⟩ := hrel
    by_cases hlt : j < G.nc
    · have hlt' : (j : Int) < (G.nc : Int) := by omega
      obtain ⟨b, o, ha, hba, hc⟩ := (HA.out.ext (HE.out.trans HX0.out)) (by omega)
      have xi := hc j hlt
      clear hc
      have HW : Hid (∀ w', Calls Try.prog 26 #[I (c j)] w' fun e w'' => e = .returned (.bool (wdB (c j))) ∧ Ext w' w'') := fun w' => Word_any _ w'
      rw [HGOOD.out j hlt] at HW
      generalize c j = v at *
      subst ha
      go_wp2_with (go_at_call 26; (with_reducible refine (HW.out _).mono ?_); rintro e w1 ⟨rfl, hb1⟩)
      go_roundw
      case rel => exact ⟨j + 1, by omega, by go_num, Lib.hid (HX0.out.trans hb1)⟩
      case measure => simp [intOf]; omega
    · obtain rfl : j = G.nc := by omega
      have hlt' : ¬ ((G.nc : Int) < (G.nc : Int)) := by omega
      obtain ⟨c0, c1, c2, c3⟩ := HB.out.ext HX0.out
      go_wp2_with fail
      clear c0 c1 c2 c3
      obtain ⟨wq, rfl⟩ : ∃ wq, wq = wr := ⟨_, rfl⟩
      go_loopw [47] (fun s wr => ∃ j : Nat, j ≤ G.np ∧ s = I j ∧ Hid (Ext W1 wr)) (fun s _ => G.np - (intOf s).toNat)
      case atStart => exact ⟨0, Nat.zero_le _, rfl, HX0⟩
      clear HX0
      case round =>
        obtain ⟨j, hj, rfl, HX0⟩ := hrel
        by_cases hlt : j < G.np
        · have hlm : j < m := by have := HMP.out; omega
          have hres : (decide ((G.P j).lo ≤ IN j) && decide (IN j ≤ (G.P j).hi)) = true := by have := HGD.out j hlt; simp; omega
          obtain ⟨b, o, ha, hba, hc⟩ := (HP.out.ext (HE.out.trans HX0.out)) (by omega)
          obtain ⟨x0, x1, x2⟩ := hc j hlt
          obtain ⟨b', o', eb, hbb, hcb⟩ := (HI.out.ext (HE.out.trans HX0.out)) (by omega)
          have xi := hcb j hlm
          have hlt' : (j : Int) < (G.np : Int) := by omega
          have hlm' : (j : Int) < (m : Int) := by omega
          clear hc hcb
          subst eb
          have HWI : Hid (∀ w', Calls Try.prog 25 #[I (IN j), I (G.P j).lo, I (G.P j).hi] w' fun e w'' => e = .returned (.bool (decide ((G.P j).lo ≤ IN j) && decide (IN j ≤ (G.P j).hi))) ∧ Ext w' w'') := fun w' => within_any _ _ _ _
          rw [hres] at HWI
          clear hres
          generalize (G.P j).lo = lo at *
          generalize (G.P j).hi = hi at *
          generalize (G.P j).fr = fr at *
          generalize IN j = v at *
          obtain ⟨W5, hW5⟩ : ∃ W5, W5 = wr.alloc (.cells #[I lo, I hi, I fr] 62) := ⟨_, rfl⟩
          have hE5 : Ext wr W5 := by rw [hW5]; exact Ext.alloc _ _
          go_upto_region 14 with fail
          (try rw [← hW5])
          have z0 : W5.cell? ⟨wr.heap.size, 0, none⟩ = some (I lo) := by rw [hW5]; go_simp
          have z1 : W5.cell? ⟨wr.heap.size, 1, none⟩ = some (I hi) := by rw [hW5]; go_simp
          have zi := (hE5.old.1 b' (o' + j) hbb).trans xi
          have lz : wr.heap.size < W5.heap.size := by rw [hW5]; simp
          have lb : b' < W5.heap.size := Nat.lt_of_lt_of_le hbb hE5.size
          clear hW5 x0 x1 x2 xi
          have hb := Ext.refl W5
          have hL := fun (x : Later _) => (Ext.trans hb x.ext).old.1
          refine wp_region_later (by kernel_rfl) (by kernel_rfl) ?_
          repeat (go_big_quiet_step (first | (go_at_call 25; exact Calls.later (HWI.out _))))
          refine wpQuiet_nil ?_
          intro w2 hw2
          replace hb := Ext.trans hb (Later.of hw2)
          clear hw2 hL z0 z1 zi
          have HX1 := HX0.out.trans (hE5.trans hb)
          go_wp2_with fail
          go_roundw
          case rel => exact ⟨j + 1, by omega, by go_num, Lib.hid HX1⟩
          case measure => simp [intOf]; omega
        · obtain rfl : j = G.np := by omega
          obtain ⟨W, rfl⟩ : ∃ W, W = wr := ⟨_, rfl⟩
          have HW := Lib.hid HX0.out
          have HE2 := Lib.hid (HE.out.trans HX0.out)
          have HO : Hid (OwI (W.alloc (.cells #[] 3)) W.heap.size (some ⟨W.heap.size, 0, none⟩) 0 c 0) := World.ownsRow_made W #[] 0 (Nat.le_refl _) (Nat.zero_le _) rfl
          have R := Lib.hid ((HA.out.ext HE2.out).ext (Ext.alloc W (.cells #[] 3)))
          obtain ⟨c0, c1, c2, c3⟩ := HB.out.ext HX0.out
          go_upto_region 18 with (at_builtin; refine appZ rfl _ _ rfl W.heap.size (some ⟨W.heap.size, 0, none⟩) 0 c rfl HO.out _ G.nc cA rfl R.out HNA.out (by omega) (by simp) ?_; intro D kD w2 hown hgrow; have O1 := Lib.hid hown; have G1 := Lib.hid hgrow; clear hown hgrow)
          have hx2 : Ext W w2 := Below.grown (Ext.alloc W _) G1.out (by simp) (fun k hk => by simp [Value.ownBlock] at hk; omega)
          have HS := Lib.hid (RuS.start O1.out hx2 rfl)
          obtain ⟨gb, hgb⟩ : ∃ gb, gb = w2.heap.size := ⟨_, rfl⟩
          rw [← hgb] at HS ⊢
          obtain ⟨W3, hW3⟩ : ∃ W3, W3 = w2.alloc (.cells #[.slice D G.nc kD, .slice none 0 0, .bool false] 35) := ⟨_, rfl⟩
          rw [← hW3] at HS ⊢
          clear hx2 hW3 hgb O1 G1 HO R c0 c1 c2 c3
          obtain ⟨c0, c1, c2, c3⟩ := HB.out.ext (HW.out.trans HS.out.ext)
          go_wp2_with fail
          clear c0 c1 c2 c3
          go_loopw [71] (fun s wr => ∃ j : Nat, j ≤ G.ni ∧ s = I j ∧ Hid (RuS W wr gb D kD G.nc (runC G.X IN c j).1 none 0 0 (runC G.X IN c j).2)) (fun s _ => G.ni - (intOf s).toNat)
          case atStart => exact ⟨0, Nat.zero_le _, rfl, HS⟩
          case round =>
            obtain ⟨j, hj, rfl, HR⟩ := hrel
            have hlt' : ((j : Int) < (G.ni : Int)) ↔ j < G.ni := by omega
            by_cases hlt : j < G.ni
            · replace hlt' := hlt'.2 hlt
              obtain ⟨b, o, ha, hba, hc⟩ := (HX'.out.ext (HE2.out.trans HR.out.ext)) (by omega)
              obtain ⟨x0, x1, x2, x3, x4, x5, x6⟩ := hc j hlt
              have iok := insE_ok (OK.out.ins j hlt)
              have hnc : 0 < G.nc := by have := iok.dst; omega
              obtain ⟨g, _, _, hD, hgW, hgb, _⟩ := HR.out.row hnc
              subst hD
              have HRES : Hid (∀ w', Ext wr w' → Calls Try.prog 38 #[insV (G.X j), .slice (some ⟨g, 0, none⟩) G.nc kD, .slice B m cB] w' (DyRd (ofI (reI (G.X j) (runC G.X IN c j).1 IN) 0) w')) := fun w' e =>
                rres_any (by rw [HMP.out]; exact iok) (HR.out.ri.ext e) (HI.out.ext (HE2.out.trans (HR.out.ext.trans e))) (runC_wd HWD.out j) HIN.out
              have HFIT : Hid (∀ w' A y, Rd w' A (len (ofI (reI (G.X j) (runC G.X IN c j).1 IN) 0).m) (dg (ofI (reI (G.X j) (runC G.X IN c j).1 IN) 0).m) → SlOk A (len (ofI (reI (G.X j) (runC G.X IN c j).1 IN) 0).m) y → Calls Try.prog 37 #[dv (ofI (reI (G.X j) (runC G.X IN c j).1 IN) 0).neg A (len (ofI (reI (G.X j) (runC G.X IN c j).1 IN) 0).m) y (ofI (reI (G.X j) (runC G.X IN c j).1 IN) 0).den] w' fun e w'' => e = .returned (.tuple #[I (sat (reC (G.X j) (runC G.X IN c j).1 IN)), .bool (!(sat (reC (G.X j) (runC G.X IN c j).1 IN) == reC (G.X j) (runC G.X IN c j).1 IN))]) ∧ Ext w' w'') := fun w' A y hr hs =>
                rfit_at (nc := G.nc) (np := m) (by rw [HMP.out]; exact iok) (runC_wd HWD.out j) HIN.out hr hs
              generalize ofI (reI (G.X j) (runC G.X IN c j).1 IN) 0 = dd' at *
              obtain ⟨dd, hdd⟩ : ∃ dd : Nat, (G.X j).dst = dd := ⟨(G.X j).dst.toNat, by have := iok.dst; omega⟩
              have hdn : dd < G.nc := by have := iok.dst; omega
              have hdn' : (dd : Int) < (G.nc : Int) := by omega
              have HST := Lib.hid (runC_step G.X IN c j)
              generalize (!(sat (reC (G.X j) (runC G.X IN c j).1 IN) == reC (G.X j) (runC G.X IN c j).1 IN)) = fl at *
              generalize sat (reC (G.X j) (runC G.X IN c j).1 IN) = v at *
              have gl := HR.out.box.lt
              have c0 := HR.out.c0
              rw [hdd] at x1
              have HDD := Lib.hid hdd
              clear hc iok hdd
              have HV : Hid (insV (G.X j) = .agg #[I (G.X j).op, I dd, I (G.X j).a, I (G.X j).b, I (G.X j).sa, I (G.X j).sb, I (G.X j).im]) := by show insV _ = _; unfold insV; rw [HDD.out]
              rw [HV.out] at HRES
              clear HV
              go_upto_region 22 with (first
                | (go_at_call 38; (with_reducible refine (HRES.out _ (Ext.alloc _ _)).mono ?_); rintro e w0 ⟨A1, y1, rfl, hr, hs, hb0⟩)
                | (go_at_call 37; (with_reducible refine (HFIT.out _ _ _ hr hs).mono ?_); rintro e w1 ⟨rfl, hb1⟩))
              have HY := Lib.hid ((Ext.alloc wr (.cells #[I (G.X j).op, I dd, I (G.X j).a, I (G.X j).b, I (G.X j).sa, I (G.X j).sb, I (G.X j).im] 52)).trans (hb0.trans hb1))
              have yd : w1.cell? ⟨wr.heap.size, 1, none⟩ = some (I dd) := ((hb0.trans hb1).old.1 _ _ (by simp)).trans (by go_simp)
              clear x0 x1 x2 x3 x4 x5 x6 c0 hb0 hb1 hr hs
              have HR1 := Lib.hid (HR.out.step HY.out)
              clear HRES HFIT
              generalize runC G.X IN c j = RC at *
              have HST2 := Lib.hid (show runC G.X IN c (j + 1) = _ from HST.out)
              rw [HDD.out, Int.toNat_natCast] at HST2
              have HP := Lib.hid (HR1.out.put dd hdn v)
              obtain ⟨q1, q2, q3⟩ := HR1.out.at_ hdn
              have p0 := HR1.out.c0
              have p2 := HR1.out.c2
              go_upto_region 23 with fail
              obtain ⟨w5, hw5⟩ : ∃ w5, w5 = w1.setCell ⟨g, dd, none⟩ (I v) := ⟨_, rfl⟩
              rw [← hw5] at HP ⊢
              clear hw5 q1 q2 q3 p0 p2 yd
              have p2 := HP.out.c2
              have p3 := HP.out.box.frozen 2
              have HFL := Lib.hid fun b => HP.out.flag b
              clear HR1 HR
              cases hov : RC.2
              all_goals
                rw [hov] at p2
                cases hfl : fl
                all_goals
                  go_wp2_with fail
                  (rw [← ha]; go_roundw; (case rel => exact ⟨j + 1, (by omega), (by go_num), (by rw [HST2.out, hov, hfl]; exact HFL.out _)⟩); (case measure => simp [intOf]; omega))
            · obtain rfl : j = G.ni := by omega
              obtain ⟨RC, hRC⟩ : ∃ RC, runC G.X IN c G.ni = RC := ⟨_, rfl⟩
              rw [hRC] at HR
              have HRC := Lib.hid hRC
              clear hRC
              obtain ⟨wb, hwb⟩ : ∃ wb, wb = wr := ⟨_, rfl⟩
              subst hwb
              have HBB := Lib.hid (HB.out.ext (HW.out.trans HR.out.ext))
              have HG1 := Lib.hid HR.out.box.lt
              have HG2 : Hid (0 < G.nc → ∀ b o, D = some ⟨b, o, none⟩ → b < wb.heap.size) := fun h0 b o hD => by
                obtain ⟨g, N, f, e1, _, _, _, e5, _⟩ := HR.out.row h0
                rw [hD] at e1; cases e1; exact e5.lt
              have HWB : Hid (W.heap.size ≤ wb.heap.size) := HR.out.ext.size
              obtain ⟨c0, c1, c2, c3⟩ := HBB.out
              go_wp2_with fail
              clear c0 c1 c2 c3
              go_loopw [100] (fun s wr => ∃ (j : Nat) (Bo : Option Addr) (l : Nat), j ≤ G.no ∧ s = I j ∧ Hid (RuS W wr gb D kD G.nc RC.1 Bo j l RC.2 ∧ OwI wr wb.heap.size Bo l (fun i => RC.1 (G.O i).toNat) j ∧ wb.heap.size ≤ wr.heap.size)) (fun s _ => G.no - (intOf s).toNat)
              case atStart => exact ⟨0, none, 0, Nat.zero_le _, rfl, HR.out, OwI.nil _ _ _, Nat.le_refl _⟩
              case round =>
                obtain ⟨j, Bo, l, hj, rfl, HQ⟩ := hrel
                by_cases hlt : j < G.no
                · have hlt' : (j : Int) < (G.no : Int) := by omega
                  obtain ⟨b, o, ha, hba, hc⟩ := (HOo.out.ext (HE2.out.trans HQ.out.1.ext)) (by omega)
                  have xo := hc j hlt
                  obtain ⟨q, hq⟩ : ∃ q : Nat, G.O j = q := ⟨(G.O j).toNat, by have := ixB_iff.1 (OK.out.out j hlt); omega⟩
                  have hqn : q < G.nc := by have := ixB_iff.1 (OK.out.out j hlt); omega
                  have hqn' : (q : Int) < (G.nc : Int) := by omega
                  have HVQ : Hid (RC.1 (G.O j).toNat = RC.1 q) := by show _ = _; rw [hq, Int.toNat_natCast]
                  rw [hq] at xo
                  obtain ⟨g, _, _, hD, _, hgb, _⟩ := HQ.out.1.row (by omega)
                  subst hD
                  obtain ⟨q1, q2, q3⟩ := HQ.out.1.at_ hqn
                  have p0 := HQ.out.1.c0
                  have p1 := HQ.out.1.c1
                  have gl := HQ.out.1.box.lt
                  have HPF := Lib.hid (HQ.out.1.box.frozen 1)
                  clear hc hq
                  go_upto_region 28 with fail
                  have wsz := HQ.out.2.2
                  clear xo
                  go_region_law (refine appI_step rfl _ _ rfl wb.heap.size Bo l (fun i => RC.1 (G.O i).toNat) j rfl (HQ.out.2.1.ext (by (with_reducible (repeat (first | exact Ext.refl _ | assumption | (refine Ext.toSet ?_ (by omega)) | refine Ext.toAlloc ?_ | refine Ext.toDrew ?_ | refine Ext.toDrewN ?_ | refine Ext.trans ?_ (by assumption)))); (first | done | fail "no"))) _ _ rfl (by show _ = some (I (RC.1 (G.O j).toNat)); rw [HVQ.out]; go_simp) (by omega) (by simp; omega) ?_; intro g9 cap w9 hown hgrow hat hltg; have ST := Lib.hid ((HQ.out.1.step (show Ext wr _ from (by (with_reducible (repeat (first | exact Ext.refl _ | assumption | (refine Ext.toSet ?_ (by omega)) | refine Ext.toAlloc ?_ | refine Ext.toDrew ?_ | refine Ext.toDrewN ?_ | refine Ext.trans ?_ (by assumption)))); (first | done | fail "no")))).grown hgrow HG1.out HG2.out (fun r hr => (HQ.out.2.1.lt r hr).1) HWB.out); have OWN := Lib.hid hown; have f1 := ST.out.c1; have f2 := ST.out.box.frozen 1; have SZ : Hid (wb.heap.size ≤ w9.heap.size) := Nat.le_trans (Nat.le_trans HQ.out.2.2 (show Ext wr _ from (by (with_reducible (repeat (first | exact Ext.refl _ | assumption | (refine Ext.toSet ?_ (by omega)) | refine Ext.toAlloc ?_ | refine Ext.toDrew ?_ | refine Ext.toDrewN ?_ | refine Ext.trans ?_ (by assumption)))); (first | done | fail "no"))).size) hgrow.size; clear hown hgrow hat hltg)
                  all_goals
                    go_wp2_with fail
                    (first | exact ⟨⟨_, _, ⟨j + 1, some ⟨g9, 0, none⟩, cap, (by omega), (by go_num), ST.out.outs _ _ _, OWN.out.off HG1.out 1 _, (by simpa using SZ.out)⟩, rfl, rfl⟩, by simp [intOf]; omega⟩ | exact ⟨⟨_, ⟨j + 1, some ⟨g9, 0, none⟩, cap, (by omega), (by go_num), ST.out.outs _ _ _, OWN.out.off HG1.out 1 _, (by simpa using SZ.out)⟩, rfl⟩, by simp [intOf]; omega⟩ | exact ⟨⟨j + 1, some ⟨g9, 0, none⟩, cap, (by omega), (by go_num), ST.out.outs _ _ _, OWN.out.off HG1.out 1 _, (by simpa using SZ.out)⟩, by simp [intOf]; omega⟩ | ((try rw [← ha]); go_roundw; (case rel => exact ⟨j + 1, some ⟨g9, 0, none⟩, cap, (by omega), (by go_num), ST.out.outs _ _ _, OWN.out.off HG1.out 1 _, (by simpa using SZ.out)⟩); (case measure => simp [intOf]; omega)))
                · obtain rfl : j = G.no := by omega
                  have hr := HF.out.ext (HW.out.trans HQ.out.1.ext)
                  have f0 := hr.frozen
                  have r0 : wr.cell? ⟨w.heap.size + 1, 0, none⟩ = some (.slice none 0 0) := hr.cell (by omega)
                  have r1 : wr.cell? ⟨w.heap.size + 1, 1, none⟩ = some (.slice none 0 0) := hr.cell (by omega)
                  have r2 : wr.cell? ⟨w.heap.size + 1, 2, none⟩ = some (.bool false) := hr.cell (by omega)
                  have HQQ := Lib.hid (ret_box hr (.slice D G.nc kD) (.slice Bo G.no l) (.bool RC.2))
                  have p0 := HQ.out.1.c0
                  have p1 := HQ.out.1.c1
                  have p2 := HQ.out.1.c2
                  have HL : Hid (w.heap.size ≤ w.heap.size + 1) := Nat.le_succ _
                  have HX := Lib.hid (HE2.out.trans HQ.out.1.ext)
                  have HN1 : Hid (0 < G.nc → ∀ b o, D = some ⟨b, o, none⟩ → b ≠ w.heap.size + 1) := fun h0 b o hD => by
                    obtain ⟨g, N, f, e1, e2, _⟩ := HQ.out.1.row h0
                    rw [hD] at e1; cases e1
                    have h1 := HW.out.size
                    have h2 := HZ.out
                    omega
                  have HN2 : Hid (0 < G.no → ∀ b o, Bo = some ⟨b, o, none⟩ → b ≠ w.heap.size + 1) := fun _ b o hB => by
                    have h1 := (HQ.out.2.1.blk b o hB).1
                    have h2 := HW.out.size
                    have h3 := HZ.out
                    have h4 := HWB.out
                    omega
                  have R1 := Lib.hid (((HQ.out.1.ri.setOther (a := ⟨w.heap.size + 1, 0, none⟩) HN1.out (.slice D G.nc kD)).setOther (a := ⟨w.heap.size + 1, 1, none⟩) HN1.out (.slice Bo G.no l)).setOther (a := ⟨w.heap.size + 1, 2, none⟩) HN1.out (.bool RC.2))
                  have R2 := Lib.hid (((HQ.out.2.1.ri.setOther (a := ⟨w.heap.size + 1, 0, none⟩) HN2.out (.slice D G.nc kD)).setOther (a := ⟨w.heap.size + 1, 1, none⟩) HN2.out (.slice Bo G.no l)).setOther (a := ⟨w.heap.size + 1, 2, none⟩) HN2.out (.bool RC.2))
                  have hnc := OK.out.nc
                  clear hr
                  go_wp2_with fail
                  exact bodyPost_ret (v := .tuple #[.agg #[.slice D G.nc kD, .slice Bo G.no l, .bool RC.2], I 0]) (by simp [results, Try.results21, go_sem, HQQ.out.1, HQQ.out.2.1, HQQ.out.2.2]) rfl ⟨D, kD, Bo, l, by rw [HRC.out], by rw [HRC.out]; exact R1.out, by rw [HRC.out]; exact R2.out, ((HX.out.toSet HL.out).toSet HL.out).toSet HL.out⟩
end Go.Proofs.Ytommlhdiefoocaa
