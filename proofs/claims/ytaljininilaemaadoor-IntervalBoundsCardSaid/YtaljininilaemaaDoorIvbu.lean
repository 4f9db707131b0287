/- The law IntervalBounds. -/
import Derived.Test.YtaljininilaemaaDoorIvy
import Derived.Test.YtaljininilaemaaDoorIvf
import Derived.Test.YtaljininilaemaaDoorIvin
import Derived.Test.YtaljininilaemaaDoorIvme
import Derived.Deep.RegionHeld3
import Derived.Deep.DeepCutAuto
namespace Go.Proofs.YtaljininilaemaaDoor
open Go.RowKit
attribute [local go_sem ↓] Go.wp_at_zero Go.wp_at_succ


set_option maxRecDepth 100000 in
set_option maxHeartbeats 16000000 in
theorem bounds_meet {w : World} {n1 n2 n3 n4 n5 n6 : Bool} {A B X Y U V A' B' X' Y' U' V' : Option Addr} {k1 c1 k2 c2 k3 c3 k4 c4 k5 c5 k6 c6 e1 e2 e3 e4 e5 e6 : Nat} {d1 d2 d3 d4 d5 d6 : Int} {a b x y u v : DV} (ha : Iw w n1 A k1 c1 d1 n2 B k2 c2 d2 a b A' e1 B' e2) (hb : Iw w n3 X k3 c3 d3 n4 Y k4 c4 d4 x y X' e3 Y' e4) (hc : Iw w n5 U k5 c5 d5 n6 V k6 c6 d6 u v U' e5 V' e6) (hT : Tabs w) (hP : TabP w) (h : (∀ i, i < 3 → shOk (if i = 0 then k1 else if i = 1 then k3 else k5) (if i = 0 then d1 else if i = 1 then d3 else d5) ∧ shOk (if i = 0 then k2 else if i = 1 then k4 else k6) (if i = 0 then d2 else if i = 1 then d4 else d6))) (hap : ¬ 0 < cmpD (maxD a x) (minD b y)) :
    Calls Tryd.prog 6 #[iv n1 A k1 c1 d1 n2 B k2 c2 d2, iv n3 X k3 c3 d3 n4 Y k4 c4 d4, iv n5 U k5 c5 d5 n6 V k6 c6 d6] w fun e w' => e = .returned (.bool true) ∧ Ext w w' := by
  have HT := Lib.hid hT; have HP := Lib.hid hP; have HA := Lib.hid ha; have HB := Lib.hid hb; have HC := Lib.hid hc; clear hT hP ha hb hc
  have HFW := Lib.hid h
  clear h
  obtain ⟨L, hL⟩ : ∃ d, lo4 a b x y = d := ⟨_, rfl⟩
  obtain ⟨H, hH⟩ : ∃ d, hi4 a b x y = d := ⟨_, rfl⟩
  obtain ⟨M, hM⟩ : ∃ d, lo2 (maxD a x) (minD b y) = d := ⟨_, rfl⟩
  obtain ⟨N, hN⟩ : ∃ d, hi2 (maxD a x) (minD b y) = d := ⟨_, rfl⟩
  have f1 := hull_in HA.out.wa.1 HA.out.wb.1 HB.out.wa.1 HB.out.wb.1
  have f3 := hull_least HA.out.wa.1 HA.out.wb.1 HB.out.wa.1 HB.out.wb.1 HC.out.wa.1 HC.out.wb.1
  have f4 := apart_iff HA.out.wa.1 HA.out.wb.1 HB.out.wa.1 HB.out.wb.1 HA.out.le HB.out.le
  have ew : End L ∧ End H ∧ L.q ≤ H.q := by
    rw [← hL, ← hH]
    exact ⟨sz_min (P := End) (sz_min (P := End) (sz_min (P := End) HA.out.wa HA.out.wb) HB.out.wa) HB.out.wb, sz_max (P := End) (sz_max (P := End) (sz_max (P := End) HA.out.wa HA.out.wb) HB.out.wa) HB.out.wb, lo4_le HA.out.wa.1 HA.out.wb.1 HB.out.wa.1 HB.out.wb.1⟩
  have em : End M ∧ End N ∧ M.q ≤ N.q := by
    rw [← hM, ← hN]
    have p1 := sz_max (P := End) HA.out.wa HB.out.wa
    have p2 := sz_min (P := End) HA.out.wb HB.out.wb
    exact ⟨sz_min (P := End) p1 p2, sz_max (P := End) p1 p2, lo2_le p1.1 p2.1⟩
  have f5 := meet_in HA.out.wa.1 HA.out.wb.1 HB.out.wa.1 HB.out.wb.1 HA.out.le HB.out.le hap
  have f6 := meet_great HA.out.wa.1 HA.out.wb.1 HB.out.wa.1 HB.out.wb.1 HC.out.wa.1 HC.out.wb.1 HA.out.le HB.out.le HC.out.le hap
  rw [hM, hN] at f5 f6
  have F5 : Hid (insB M N a b = true) := f5.1; have F6 : Hid (insB M N x y = true) := f5.2; have F7 : Hid ((insB u v a b && insB u v x y) = insB u v M N) := f6
  have nap : ¬ cmpD b x < 0 ∧ ¬ cmpD y a < 0 := ⟨fun h => hap (f4.2 (.inl h)), fun h => hap (f4.2 (.inr h))⟩
  clear f5 f6
  rw [hL, hH] at f1 f3
  have F1 : Hid (insB a b L H = true) := f1.1; have F2 : Hid (insB x y L H = true) := f1.2; have F3 : Hid (insB a b u v = true → insB x y u v = insB L H u v) := f3
  have EW : Hid (End L ∧ End H ∧ L.q ≤ H.q) := ew; have EM : Hid (End M ∧ End N ∧ M.q ≤ N.q) := em
  have EL := Lib.hid hL; have EH := Lib.hid hH; have EMM := Lib.hid hM; have ENN := Lib.hid hN; have HAP := Lib.hid (Int.not_lt.1 hap)
  have NAP := Lib.hid nap
  clear f1 f3 f4 ew em hL hH hM hN hap nap
  go_enter Tryd.func6, Tryd.ntmps6
  go_wp2_with fail
  have HN : Hid (Ivs ((((w.alloc (.cells #[.bool n1, .slice A k1 c1, I d1, .bool n2, .slice B k2 c2, I d2] 49)).alloc (.cells #[.bool n3, .slice X k3 c3, I d3, .bool n4, .slice Y k4 c4, I d4] 49)).alloc (.cells #[.bool n5, .slice U k5 c5, I d5, .bool n6, .slice V k6 c6, I d6] 49)).alloc (.cells #[.bool n1, .slice A k1 c1, I d1, .bool n2, .slice B k2 c2, I d2, .bool n3, .slice X k3 c3, I d3, .bool n4, .slice Y k4 c4, I d4, .bool n5, .slice U k5 c5, I d5, .bool n6, .slice V k6 c6, I d6] 49)) (w.heap.size + 1 + 1 + 1) 3 (fun i => if i = 0 then n1 else if i = 1 then n3 else n5) (fun i => if i = 0 then A else if i = 1 then X else U) (fun i => if i = 0 then k1 else if i = 1 then k3 else k5) (fun i => if i = 0 then c1 else if i = 1 then c3 else c5) (fun i => if i = 0 then d1 else if i = 1 then d3 else d5) (fun i => if i = 0 then n2 else if i = 1 then n4 else n6) (fun i => if i = 0 then B else if i = 1 then Y else V) (fun i => if i = 0 then k2 else if i = 1 then k4 else k6) (fun i => if i = 0 then c2 else if i = 1 then c4 else c6) (fun i => if i = 0 then d2 else if i = 1 then d4 else d6)) := ivs3 (((w.alloc (.cells #[.bool n1, .slice A k1 c1, I d1, .bool n2, .slice B k2 c2, I d2] 49)).alloc (.cells #[.bool n3, .slice X k3 c3, I d3, .bool n4, .slice Y k4 c4, I d4] 49)).alloc (.cells #[.bool n5, .slice U k5 c5, I d5, .bool n6, .slice V k6 c6, I d6] 49)) (w.heap.size + 1 + 1 + 1) (by simp) 49
  with_reducible refine (ifew_any (b := true) HN.out (by simp) (by omega) ⟨fun _ => HFW.out, fun _ => rfl⟩).mono ?_
  rintro e wf ⟨rfl, hx⟩
  have HEF : Hid (Ext w wf) := ((((Ext.alloc _ _).trans (Ext.alloc _ _)).trans (Ext.alloc _ _)).trans (Ext.alloc _ _)).trans hx
  have Y0 : Hid (B6 wf w.heap.size (.bool n1) (.slice A k1 c1) (I d1) (.bool n2) (.slice B k2 c2) (I d2)) := by
    exact ((((B6.new w _ _ _ _ _ _ _).ext (Ext.alloc _ _)).ext (Ext.alloc _ _)).ext (Ext.alloc _ _)).ext hx
  have Y1 : Hid (B6 wf (w.heap.size + 1) (.bool n3) (.slice X k3 c3) (I d3) (.bool n4) (.slice Y k4 c4) (I d4)) := by
    have s := B6.new (w.alloc (.cells #[.bool n1, .slice A k1 c1, I d1, .bool n2, .slice B k2 c2, I d2] 49)) (.bool n3) (.slice X k3 c3) (I d3) (.bool n4) (.slice Y k4 c4) (I d4) 49
    rw [show (w.alloc (.cells #[.bool n1, .slice A k1 c1, I d1, .bool n2, .slice B k2 c2, I d2] 49)).heap.size = w.heap.size + 1 by simp] at s
    exact ((s.ext (Ext.alloc _ _)).ext (Ext.alloc _ _)).ext hx
  have Y2 : Hid (B6 wf (w.heap.size + 1 + 1) (.bool n5) (.slice U k5 c5) (I d5) (.bool n6) (.slice V k6 c6) (I d6)) := by
    have s := B6.new ((w.alloc (.cells #[.bool n1, .slice A k1 c1, I d1, .bool n2, .slice B k2 c2, I d2] 49)).alloc (.cells #[.bool n3, .slice X k3 c3, I d3, .bool n4, .slice Y k4 c4, I d4] 49)) (.bool n5) (.slice U k5 c5) (I d5) (.bool n6) (.slice V k6 c6) (I d6) 49
    rw [show ((w.alloc (.cells #[.bool n1, .slice A k1 c1, I d1, .bool n2, .slice B k2 c2, I d2] 49)).alloc (.cells #[.bool n3, .slice X k3 c3, I d3, .bool n4, .slice Y k4 c4, I d4] 49)).heap.size = w.heap.size + 1 + 1 by simp] at s
    exact (s.ext (Ext.alloc _ _)).ext hx
  clear hx HN HFW
  go_wp2_with fail
  refine (iawake_any _ (HT.out.ext HEF.out) (HP.out.ext HEF.out)).mono ?_
  rintro e w0 ⟨rfl, hx⟩
  have X0 := Lib.hid (HEF.out.trans hx)
  have Z0 := Lib.hid (Y0.out.ext hx); have Z1 := Lib.hid (Y1.out.ext hx); have Z2 := Lib.hid (Y2.out.ext hx)
  clear hx Y0 Y1 Y2 HEF
  obtain ⟨⟨k0, k1, k2, k3, k4, k5⟩, kz⟩ := Z0.out; obtain ⟨⟨l0, l1, l2, l3, l4, l5⟩, lz⟩ := Z1.out
  go_wp2_with (first
    | (have hg := X1; clear hg; go_at_call 34; (with_reducible refine (meet_ok (HA.out.ext ((X0.out.trans X1.out).trans (Ext.alloc _ _))) (HB.out.ext ((X0.out.trans X1.out).trans (Ext.alloc _ _))) (HT.out.ext ((X0.out.trans X1.out).trans (Ext.alloc _ _))) (Int.not_lt.2 HAP.out)).mono ?_); rw [EMM.out, ENN.out]; rintro e1 w2 ⟨AM, cM, BM, eM, rfl, hfa, hfb, hx⟩; have X2 := Lib.hid hx; have DM := Lib.hid (fun (W : World) (x : Ext w2 W) => IvRes.at_ hfa hfb EM.out.1 EM.out.2.1 EM.out.2.2 x); clear hfa hfb hx k0 k1 k2 k3 k4 k5 kz l0 l1 l2 l3 l4 l5 lz)
    | (go_at_call 33; (with_reducible refine (hull_any (HA.out.ext X0.out) (HB.out.ext X0.out) (HT.out.ext X0.out)).mono ?_); rw [EL.out, EH.out]; rintro e1 w1 ⟨AH, cH, BH, eH, rfl, hfa, hfb, hx⟩; have X1 := Lib.hid hx; have DH := Lib.hid (fun (W : World) (x : Ext w1 W) => IvRes.at_ hfa hfb EW.out.1 EW.out.2.1 EW.out.2.2 x); clear hfa hfb hx k0 k1 k2 k3 k4 k5 kz l0 l1 l2 l3 l4 l5 lz; obtain ⟨⟨k0, k1, k2, k3, k4, k5⟩, kz⟩ := Z0.out.ext (X1.out.trans (Ext.alloc _ (.cells #[.bool L.neg, .slice AH (len L.m) cH, I L.den, .bool H.neg, .slice BH (len H.m) eH, I H.den] 49))); obtain ⟨⟨l0, l1, l2, l3, l4, l5⟩, lz⟩ := Z1.out.ext (X1.out.trans (Ext.alloc _ (.cells #[.bool L.neg, .slice AH (len L.m) cH, I L.den, .bool H.neg, .slice BH (len H.m) eH, I H.den] 49)))))
  have XW := Lib.hid ((X0.out.trans X1.out).trans ((Ext.alloc w1 (.cells #[.bool L.neg, .slice AH (len L.m) cH, I L.den, .bool H.neg, .slice BH (len H.m) eH, I H.den] 49)).trans (X2.out.trans (Ext.alloc w2 (.cells #[.bool M.neg, .slice AM (len M.m) cM, I M.den, .bool N.neg, .slice BM (len N.m) eM, I N.den] 49)))))
  have X05 := Lib.hid (X1.out.trans ((Ext.alloc w1 (.cells #[.bool L.neg, .slice AH (len L.m) cH, I L.den, .bool H.neg, .slice BH (len H.m) eH, I H.den] 49)).trans (X2.out.trans (Ext.alloc w2 (.cells #[.bool M.neg, .slice AM (len M.m) cM, I M.den, .bool N.neg, .slice BM (len N.m) eM, I N.den] 49)))))
  have T0 := Lib.hid (Z0.out.ext X05.out); have T1 := Lib.hid (Z1.out.ext X05.out); have T2 := Lib.hid (Z2.out.ext X05.out)
  have TH : Hid (B6 (w2.alloc (.cells #[.bool M.neg, .slice AM (len M.m) cM, I M.den, .bool N.neg, .slice BM (len N.m) eM, I N.den] 49)) w1.heap.size (.bool L.neg) (.slice AH (len L.m) cH) (I L.den) (.bool H.neg) (.slice BH (len H.m) eH) (I H.den)) := ((B6.new w1 _ _ _ _ _ _ _).ext X2.out).ext (Ext.alloc _ _)
  have TM : Hid (B6 (w2.alloc (.cells #[.bool M.neg, .slice AM (len M.m) cM, I M.den, .bool N.neg, .slice BM (len N.m) eM, I N.den] 49)) w2.heap.size (.bool M.neg) (.slice AM (len M.m) cM) (I M.den) (.bool N.neg) (.slice BM (len N.m) eM) (I N.den)) := B6.new w2 _ _ _ _ _ _ _
  have DH' := Lib.hid (fun (W : World) (x : Ext (w2.alloc (.cells #[.bool M.neg, .slice AM (len M.m) cM, I M.den, .bool N.neg, .slice BM (len N.m) eM, I N.den] 49)) W) => DH.out W (((Ext.alloc w1 (.cells #[.bool L.neg, .slice AH (len L.m) cH, I L.den, .bool H.neg, .slice BH (len H.m) eH, I H.den] 49)).trans (X2.out.trans (Ext.alloc w2 (.cells #[.bool M.neg, .slice AM (len M.m) cM, I M.den, .bool N.neg, .slice BM (len N.m) eM, I N.den] 49)))).trans x))
  have DM' := Lib.hid (fun (W : World) (x : Ext (w2.alloc (.cells #[.bool M.neg, .slice AM (len M.m) cM, I M.den, .bool N.neg, .slice BM (len N.m) eM, I N.den] 49)) W) => DM.out W ((Ext.alloc w2 (.cells #[.bool M.neg, .slice AM (len M.m) cM, I M.den, .bool N.neg, .slice BM (len N.m) eM, I N.den] 49)).trans x))
  clear Z0 Z1 Z2 X0 X1 X2 X05 DH DM EL EH EMM ENN
  generalize (w2.alloc (.cells #[.bool M.neg, .slice AM (len M.m) cM, I M.den, .bool N.neg, .slice BM (len N.m) eM, I N.den] 49)) = W5 at *
  generalize w1.heap.size = gh at *
  generalize w2.heap.size = gm at *
  have HS : Hid (∀ w', Ext W5 w' → w'.cell? ⟨w.heap.size, 0, none⟩ = some (.bool n1) ∧ w'.cell? ⟨w.heap.size, 1, none⟩ = some (.slice A k1 c1) ∧ w'.cell? ⟨w.heap.size, 2, none⟩ = some (I d1) ∧ w'.cell? ⟨w.heap.size, 3, none⟩ = some (.bool n2) ∧ w'.cell? ⟨w.heap.size, 4, none⟩ = some (.slice B k2 c2) ∧ w'.cell? ⟨w.heap.size, 5, none⟩ = some (I d2) ∧ w'.cell? ⟨w.heap.size + 1, 0, none⟩ = some (.bool n3) ∧ w'.cell? ⟨w.heap.size + 1, 1, none⟩ = some (.slice X k3 c3) ∧ w'.cell? ⟨w.heap.size + 1, 2, none⟩ = some (I d3) ∧ w'.cell? ⟨w.heap.size + 1, 3, none⟩ = some (.bool n4) ∧ w'.cell? ⟨w.heap.size + 1, 4, none⟩ = some (.slice Y k4 c4) ∧ w'.cell? ⟨w.heap.size + 1, 5, none⟩ = some (I d4) ∧ w'.cell? ⟨w.heap.size + 1 + 1, 0, none⟩ = some (.bool n5) ∧ w'.cell? ⟨w.heap.size + 1 + 1, 1, none⟩ = some (.slice U k5 c5) ∧ w'.cell? ⟨w.heap.size + 1 + 1, 2, none⟩ = some (I d5) ∧ w'.cell? ⟨w.heap.size + 1 + 1, 3, none⟩ = some (.bool n6) ∧ w'.cell? ⟨w.heap.size + 1 + 1, 4, none⟩ = some (.slice V k6 c6) ∧ w'.cell? ⟨w.heap.size + 1 + 1, 5, none⟩ = some (I d6) ∧ w'.cell? ⟨gh, 0, none⟩ = some (.bool L.neg) ∧ w'.cell? ⟨gh, 1, none⟩ = some (.slice AH (len L.m) cH) ∧ w'.cell? ⟨gh, 2, none⟩ = some (I L.den) ∧ w'.cell? ⟨gh, 3, none⟩ = some (.bool H.neg) ∧ w'.cell? ⟨gh, 4, none⟩ = some (.slice BH (len H.m) eH) ∧ w'.cell? ⟨gh, 5, none⟩ = some (I H.den)) := fun w' e => by
    obtain ⟨⟨i0, i1, i2, i3, i4, i5⟩, iz⟩ := T0.out.ext e
    obtain ⟨⟨j0, j1, j2, j3, j4, j5⟩, jz⟩ := T1.out.ext e
    obtain ⟨⟨m0, m1, m2, m3, m4, m5⟩, mz⟩ := T2.out.ext e
    obtain ⟨⟨p0, p1, p2, p3, p4, p5⟩, pz⟩ := TH.out.ext e
    exact ⟨i0, i1, i2, i3, i4, i5, j0, j1, j2, j3, j4, j5, m0, m1, m2, m3, m4, m5, p0, p1, p2, p3, p4, p5⟩
  obtain ⟨z, hz⟩ : ∃ z, insB L H u v = z := ⟨_, rfl⟩
  have EZ := Lib.hid hz; clear hz
  go_cut [57] (fun s57 wx => s57 = .bool false ∧ Hid (Ext W5 wx))
  case first =>
    cases hs : insB a b u v with
    | true =>
      have F8 : Hid (insB x y u v = z) := (F3.out hs).trans EZ.out
      have HSS := Lib.hid hs; clear hs
      have hbb : (z != z) = false := by simp
      go_region_held3 (fun w' => w'.cell? ⟨w.heap.size, 0, none⟩ = some (.bool n1) ∧ w'.cell? ⟨w.heap.size, 1, none⟩ = some (.slice A k1 c1) ∧ w'.cell? ⟨w.heap.size, 2, none⟩ = some (I d1) ∧ w'.cell? ⟨w.heap.size, 3, none⟩ = some (.bool n2) ∧ w'.cell? ⟨w.heap.size, 4, none⟩ = some (.slice B k2 c2) ∧ w'.cell? ⟨w.heap.size, 5, none⟩ = some (I d2) ∧ w'.cell? ⟨w.heap.size + 1, 0, none⟩ = some (.bool n3) ∧ w'.cell? ⟨w.heap.size + 1, 1, none⟩ = some (.slice X k3 c3) ∧ w'.cell? ⟨w.heap.size + 1, 2, none⟩ = some (I d3) ∧ w'.cell? ⟨w.heap.size + 1, 3, none⟩ = some (.bool n4) ∧ w'.cell? ⟨w.heap.size + 1, 4, none⟩ = some (.slice Y k4 c4) ∧ w'.cell? ⟨w.heap.size + 1, 5, none⟩ = some (I d4) ∧ w'.cell? ⟨w.heap.size + 1 + 1, 0, none⟩ = some (.bool n5) ∧ w'.cell? ⟨w.heap.size + 1 + 1, 1, none⟩ = some (.slice U k5 c5) ∧ w'.cell? ⟨w.heap.size + 1 + 1, 2, none⟩ = some (I d5) ∧ w'.cell? ⟨w.heap.size + 1 + 1, 3, none⟩ = some (.bool n6) ∧ w'.cell? ⟨w.heap.size + 1 + 1, 4, none⟩ = some (.slice V k6 c6) ∧ w'.cell? ⟨w.heap.size + 1 + 1, 5, none⟩ = some (I d6) ∧ w'.cell? ⟨gh, 0, none⟩ = some (.bool L.neg) ∧ w'.cell? ⟨gh, 1, none⟩ = some (.slice AH (len L.m) cH) ∧ w'.cell? ⟨gh, 2, none⟩ = some (I L.den) ∧ w'.cell? ⟨gh, 3, none⟩ = some (.bool H.neg) ∧ w'.cell? ⟨gh, 4, none⟩ = some (.slice BH (len H.m) eH) ∧ w'.cell? ⟨gh, 5, none⟩ = some (I H.den)) (first | with_reducible assumption | exact HS.out _ (by (with_reducible (repeat (first | exact Ext.refl _ | assumption | (refine Ext.toSet ?_ (by omega)) | refine Ext.toAlloc ?_ | refine Ext.toDrew ?_ | refine Ext.toDrewN ?_ | refine Ext.trans ?_ (by assumption)))); (first | done | fail "no")))
        (first
          | (have hg := hx4; clear hg; go_at_call 35; (with_reducible refine (inside_any (DH'.out _ (by (with_reducible (repeat (first | exact Ext.refl _ | assumption | (refine Ext.toSet ?_ (by omega)) | refine Ext.toAlloc ?_ | refine Ext.toDrew ?_ | refine Ext.toDrewN ?_ | refine Ext.trans ?_ (by assumption)))); (first | done | fail "no"))) (HC.out.ext (XW.out.trans (by (with_reducible (repeat (first | exact Ext.refl _ | assumption | (refine Ext.toSet ?_ (by omega)) | refine Ext.toAlloc ?_ | refine Ext.toDrew ?_ | refine Ext.toDrewN ?_ | refine Ext.trans ?_ (by assumption)))); (first | done | fail "no"))))).mono ?_); rw [EZ.out]; rintro e1 v5 ⟨rfl, hx5⟩)
          | (have hg := hx3; clear hg; go_at_call 35; (with_reducible refine (inside_any (HB.out.ext (XW.out.trans (by (with_reducible (repeat (first | exact Ext.refl _ | assumption | (refine Ext.toSet ?_ (by omega)) | refine Ext.toAlloc ?_ | refine Ext.toDrew ?_ | refine Ext.toDrewN ?_ | refine Ext.trans ?_ (by assumption)))); (first | done | fail "no")))) (HC.out.ext (XW.out.trans (by (with_reducible (repeat (first | exact Ext.refl _ | assumption | (refine Ext.toSet ?_ (by omega)) | refine Ext.toAlloc ?_ | refine Ext.toDrew ?_ | refine Ext.toDrewN ?_ | refine Ext.trans ?_ (by assumption)))); (first | done | fail "no"))))).mono ?_); rw [F8.out]; rintro e1 v4 ⟨rfl, hx4⟩)
          | (have hg := hx2; clear hg; go_at_call 35; (with_reducible refine (inside_any (HA.out.ext (XW.out.trans (by (with_reducible (repeat (first | exact Ext.refl _ | assumption | (refine Ext.toSet ?_ (by omega)) | refine Ext.toAlloc ?_ | refine Ext.toDrew ?_ | refine Ext.toDrewN ?_ | refine Ext.trans ?_ (by assumption)))); (first | done | fail "no")))) (HC.out.ext (XW.out.trans (by (with_reducible (repeat (first | exact Ext.refl _ | assumption | (refine Ext.toSet ?_ (by omega)) | refine Ext.toAlloc ?_ | refine Ext.toDrew ?_ | refine Ext.toDrewN ?_ | refine Ext.trans ?_ (by assumption)))); (first | done | fail "no"))))).mono ?_); rw [HSS.out]; rintro e1 v3 ⟨rfl, hx3⟩)
          | (have hg := hx1; clear hg; go_at_call 35; (with_reducible refine (inside_any (HB.out.ext (XW.out.trans (by (with_reducible (repeat (first | exact Ext.refl _ | assumption | (refine Ext.toSet ?_ (by omega)) | refine Ext.toAlloc ?_ | refine Ext.toDrew ?_ | refine Ext.toDrewN ?_ | refine Ext.trans ?_ (by assumption)))); (first | done | fail "no")))) (DH'.out _ (by (with_reducible (repeat (first | exact Ext.refl _ | assumption | (refine Ext.toSet ?_ (by omega)) | refine Ext.toAlloc ?_ | refine Ext.toDrew ?_ | refine Ext.toDrewN ?_ | refine Ext.trans ?_ (by assumption)))); (first | done | fail "no")))).mono ?_); rw [F2.out]; rintro e1 v2 ⟨rfl, hx2⟩)
          | (go_at_call 35; (with_reducible refine (inside_any (HA.out.ext (XW.out.trans (by (with_reducible (repeat (first | exact Ext.refl _ | assumption | (refine Ext.toSet ?_ (by omega)) | refine Ext.toAlloc ?_ | refine Ext.toDrew ?_ | refine Ext.toDrewN ?_ | refine Ext.trans ?_ (by assumption)))); (first | done | fail "no")))) (DH'.out _ (by (with_reducible (repeat (first | exact Ext.refl _ | assumption | (refine Ext.toSet ?_ (by omega)) | refine Ext.toAlloc ?_ | refine Ext.toDrew ?_ | refine Ext.toDrewN ?_ | refine Ext.trans ?_ (by assumption)))); (first | done | fail "no")))).mono ?_); rw [F1.out]; rintro e1 v1 ⟨rfl, hx1⟩))
      all_goals
        go_wp2_with fail
        go_meet
        exact ⟨rfl, Lib.hid (by (with_reducible (repeat (first | exact Ext.refl _ | assumption | (refine Ext.toSet ?_ (by omega)) | refine Ext.toAlloc ?_ | refine Ext.toDrew ?_ | refine Ext.toDrewN ?_ | refine Ext.trans ?_ (by assumption)))); (first | done | fail "no"))⟩
    | false =>
      have HSS := Lib.hid hs; clear hs
      (try dsimp only [List.append])
      refine wp_region_noPanic ?_
      refine wp_region_held_drew (S := fun w' => w'.cell? ⟨w.heap.size, 0, none⟩ = some (.bool n1) ∧ w'.cell? ⟨w.heap.size, 1, none⟩ = some (.slice A k1 c1) ∧ w'.cell? ⟨w.heap.size, 2, none⟩ = some (I d1) ∧ w'.cell? ⟨w.heap.size, 3, none⟩ = some (.bool n2) ∧ w'.cell? ⟨w.heap.size, 4, none⟩ = some (.slice B k2 c2) ∧ w'.cell? ⟨w.heap.size, 5, none⟩ = some (I d2) ∧ w'.cell? ⟨w.heap.size + 1, 0, none⟩ = some (.bool n3) ∧ w'.cell? ⟨w.heap.size + 1, 1, none⟩ = some (.slice X k3 c3) ∧ w'.cell? ⟨w.heap.size + 1, 2, none⟩ = some (I d3) ∧ w'.cell? ⟨w.heap.size + 1, 3, none⟩ = some (.bool n4) ∧ w'.cell? ⟨w.heap.size + 1, 4, none⟩ = some (.slice Y k4 c4) ∧ w'.cell? ⟨w.heap.size + 1, 5, none⟩ = some (I d4) ∧ w'.cell? ⟨w.heap.size + 1 + 1, 0, none⟩ = some (.bool n5) ∧ w'.cell? ⟨w.heap.size + 1 + 1, 1, none⟩ = some (.slice U k5 c5) ∧ w'.cell? ⟨w.heap.size + 1 + 1, 2, none⟩ = some (I d5) ∧ w'.cell? ⟨w.heap.size + 1 + 1, 3, none⟩ = some (.bool n6) ∧ w'.cell? ⟨w.heap.size + 1 + 1, 4, none⟩ = some (.slice V k6 c6) ∧ w'.cell? ⟨w.heap.size + 1 + 1, 5, none⟩ = some (I d6) ∧ w'.cell? ⟨gh, 0, none⟩ = some (.bool L.neg) ∧ w'.cell? ⟨gh, 1, none⟩ = some (.slice AH (len L.m) cH) ∧ w'.cell? ⟨gh, 2, none⟩ = some (I L.den) ∧ w'.cell? ⟨gh, 3, none⟩ = some (.bool H.neg) ∧ w'.cell? ⟨gh, 4, none⟩ = some (.slice BH (len H.m) eH) ∧ w'.cell? ⟨gh, 5, none⟩ = some (I H.den)) (by kernel_rfl) ?_ (fun hHeld => ?_)
      · exact HS.out _ (Ext.drew _)
      refine wpAnyH_take (i := 0) (oi := { dst := some 34, op := Op.load 49 (Operand.tmp 3), type := 49, pos := "law.go:133", after := #[], guard := none }) (v := ?_) rfl (by kernel_rfl) (by kernel_rfl) (by kernel_rfl) (fun _ _ _ h => h) (Or.inl ⟨by rfl, ?hy⟩) hHeld ?_
      case hy => ((intro w' hSw; (try dsimp only at hSw); go_simp); (try with_reducible rfl))
      (try simp only [Act.put, List.setIfInBounds_toArray, List.set_cons_zero, List.set_cons_succ])
      refine wpAnyH_take (i := 1) (oi := { dst := some 35, op := Op.load 49 (Operand.tmp 7), type := 49, pos := "law.go:133", after := #[], guard := none }) (v := ?_) rfl (by kernel_rfl) (by kernel_rfl) (by kernel_rfl) (fun _ _ _ h => h) (Or.inl ⟨by rfl, ?hy⟩) hHeld ?_
      case hy => ((intro w' hSw; (try dsimp only at hSw); go_simp); (try with_reducible rfl))
      (try simp only [Act.put, List.setIfInBounds_toArray, List.set_cons_zero, List.set_cons_succ])
      refine wpAnyH_ready (rs := [2]) (by kernel_rfl) (by simp) ?_
      refine AllReadyH.cons (o := { dst := some 36, op := Op.call { callee := Callee.value (Operand.func 35), args := #[Operand.tmp 34, Operand.tmp 35], argTypes := #[49, 49] }, type := 4, pos := "law.go:133", after := #[{ on := 0, ground := Ground.data }, { on := 1, ground := Ground.data }], guard := none }) rfl (fun K hK => ?_) AllReadyH.nil
      go_simp
      (go_at_call 35; (with_reducible refine (inside_any (HA.out.ext (XW.out.trans (by (with_reducible (repeat (first | exact Ext.refl _ | assumption | (refine Ext.toSet ?_ (by omega)) | refine Ext.toAlloc ?_ | refine Ext.toDrew ?_ | refine Ext.toDrewN ?_ | refine Ext.trans ?_ (by assumption)))); (first | done | fail "no")))) (DH'.out _ (by (with_reducible (repeat (first | exact Ext.refl _ | assumption | (refine Ext.toSet ?_ (by omega)) | refine Ext.toAlloc ?_ | refine Ext.toDrew ?_ | refine Ext.toDrewN ?_ | refine Ext.trans ?_ (by assumption)))); (first | done | fail "no")))).mono ?_); rw [F1.out]; rintro e1 v1 ⟨rfl, hx1⟩)
      (try go_wp2_with fail)
      refine hK.out _ _ (HS.out _ (by (with_reducible (repeat (first | exact Ext.refl _ | assumption | (refine Ext.toSet ?_ (by omega)) | refine Ext.toAlloc ?_ | refine Ext.toDrew ?_ | refine Ext.toDrewN ?_ | refine Ext.trans ?_ (by assumption)))); (first | done | fail "no"))) (fun hHeld' => ?_)
      clear hK K hHeld
      have hHeld := hHeld'
      clear hHeld'
      (try simp only [Act.put, List.setIfInBounds_toArray, List.set_cons_zero, List.set_cons_succ])
      refine wpAnyH_take (i := 3) (oi := { dst := some 37, op := Op.unOp UnOp.not 4 (Operand.tmp 36), type := 4, pos := "law.go:133", after := #[{ on := 2, ground := Ground.data }], guard := none }) (v := ?_) rfl (by kernel_rfl) (by kernel_rfl) (by kernel_rfl) (fun _ _ _ h => h) (Or.inl ⟨by rfl, ?hy⟩) hHeld ?_
      case hy => ((intro w' hSw; (try dsimp only at hSw); go_simp); (try with_reducible rfl))
      (try simp only [Act.put, List.setIfInBounds_toArray, List.set_cons_zero, List.set_cons_succ])
      refine wpAnyH_take (i := 4) (oi := { dst := some 38, op := Op.move (Operand.tmp 37), type := 4, pos := "law.go:133", after := #[{ on := 3, ground := Ground.data }, { on := 2, ground := Ground.chain }], guard := none }) (v := ?_) rfl (by kernel_rfl) (by kernel_rfl) (by kernel_rfl) (fun _ _ _ h => h) (Or.inl ⟨by rfl, ?hy⟩) hHeld ?_
      case hy => ((intro w' hSw; (try dsimp only at hSw); go_simp); (try with_reducible rfl))
      (try simp only [Act.put, List.setIfInBounds_toArray, List.set_cons_zero, List.set_cons_succ])
      refine wpAnyH_take (i := 5) (oi := { dst := some 39, op := Op.load 49 (Operand.tmp 4), type := 49, pos := "law.go:133", after := #[{ on := 4, ground := Ground.guard }], guard := some (4, false) }) (v := ?_) rfl (by kernel_rfl) (by kernel_rfl) (by kernel_rfl) (fun _ _ _ h => h) (Or.inl ⟨by rfl, ?hy⟩) hHeld ?_
      case hy => ((intro w' hSw; (try dsimp only at hSw); go_simp); (try with_reducible rfl))
      (try simp only [Act.put, List.setIfInBounds_toArray, List.set_cons_zero, List.set_cons_succ])
      refine wpAnyH_take (i := 6) (oi := { dst := some 40, op := Op.load 49 (Operand.tmp 7), type := 49, pos := "law.go:133", after := #[{ on := 4, ground := Ground.guard }], guard := some (4, false) }) (v := ?_) rfl (by kernel_rfl) (by kernel_rfl) (by kernel_rfl) (fun _ _ _ h => h) (Or.inl ⟨by rfl, ?hy⟩) hHeld ?_
      case hy => ((intro w' hSw; (try dsimp only at hSw); go_simp); (try with_reducible rfl))
      (try simp only [Act.put, List.setIfInBounds_toArray, List.set_cons_zero, List.set_cons_succ])
      refine wpAnyH_ready (rs := [7]) (by kernel_rfl) (by simp) ?_
      refine AllReadyH.cons (o := { dst := some 41, op := Op.call { callee := Callee.value (Operand.func 35), args := #[Operand.tmp 39, Operand.tmp 40], argTypes := #[49, 49] }, type := 4, pos := "law.go:133", after := #[{ on := 5, ground := Ground.data }, { on := 6, ground := Ground.data }, { on := 4, ground := Ground.chain }, { on := 4, ground := Ground.guard }], guard := some (4, false) }) rfl (fun K hK => ?_) AllReadyH.nil
      go_simp
      (have hg := hx1; clear hg; go_at_call 35; (with_reducible refine (inside_any (HB.out.ext (XW.out.trans (by (with_reducible (repeat (first | exact Ext.refl _ | assumption | (refine Ext.toSet ?_ (by omega)) | refine Ext.toAlloc ?_ | refine Ext.toDrew ?_ | refine Ext.toDrewN ?_ | refine Ext.trans ?_ (by assumption)))); (first | done | fail "no")))) (DH'.out _ (by (with_reducible (repeat (first | exact Ext.refl _ | assumption | (refine Ext.toSet ?_ (by omega)) | refine Ext.toAlloc ?_ | refine Ext.toDrew ?_ | refine Ext.toDrewN ?_ | refine Ext.trans ?_ (by assumption)))); (first | done | fail "no")))).mono ?_); rw [F2.out]; rintro e1 v2 ⟨rfl, hx2⟩)
      (try go_wp2_with fail)
      refine hK.out _ _ (HS.out _ (by (with_reducible (repeat (first | exact Ext.refl _ | assumption | (refine Ext.toSet ?_ (by omega)) | refine Ext.toAlloc ?_ | refine Ext.toDrew ?_ | refine Ext.toDrewN ?_ | refine Ext.trans ?_ (by assumption)))); (first | done | fail "no"))) (fun hHeld' => ?_)
      clear hK K hHeld
      have hHeld := hHeld'
      clear hHeld'
      (try simp only [Act.put, List.setIfInBounds_toArray, List.set_cons_zero, List.set_cons_succ])
      refine wpAnyH_take (i := 8) (oi := { dst := some 42, op := Op.unOp UnOp.not 4 (Operand.tmp 41), type := 4, pos := "law.go:133", after := #[{ on := 7, ground := Ground.data }, { on := 4, ground := Ground.guard }], guard := some (4, false) }) (v := ?_) rfl (by kernel_rfl) (by kernel_rfl) (by kernel_rfl) (fun _ _ _ h => h) (Or.inl ⟨by rfl, ?hy⟩) hHeld ?_
      case hy => ((intro w' hSw; (try dsimp only at hSw); go_simp); (try with_reducible rfl))
      (try simp only [Act.put, List.setIfInBounds_toArray, List.set_cons_zero, List.set_cons_succ])
      refine wpAnyH_take (i := 9) (oi := { dst := some 43, op := Op.pick (Operand.tmp 38) (Operand.const (Value.bool true)) (Operand.tmp 42), type := 4, pos := "law.go:133", after := #[{ on := 4, ground := Ground.data }, { on := 8, ground := Ground.data }], guard := none }) (v := ?_) rfl (by kernel_rfl) (by kernel_rfl) (by kernel_rfl) (fun _ _ _ h => h) (Or.inl ⟨by rfl, ?hy⟩) hHeld ?_
      case hy => ((intro w' hSw; (try dsimp only at hSw); go_simp); (try with_reducible rfl))
      (try simp only [Act.put, List.setIfInBounds_toArray, List.set_cons_zero, List.set_cons_succ])
      refine wpAnyH_take (i := 10) (oi := { dst := some 44, op := Op.move (Operand.tmp 43), type := 4, pos := "law.go:133", after := #[{ on := 9, ground := Ground.data }, { on := 7, ground := Ground.chain }], guard := none }) (v := ?_) rfl (by kernel_rfl) (by kernel_rfl) (by kernel_rfl) (fun _ _ _ h => h) (Or.inl ⟨by rfl, ?hy⟩) hHeld ?_
      case hy => ((intro w' hSw; (try dsimp only at hSw); go_simp); (try with_reducible rfl))
      (try simp only [Act.put, List.setIfInBounds_toArray, List.set_cons_zero, List.set_cons_succ])
      refine wpAnyH_take (i := 11) (oi := { dst := some 45, op := Op.load 49 (Operand.tmp 3), type := 49, pos := "law.go:133", after := #[{ on := 10, ground := Ground.guard }], guard := some (10, false) }) (v := ?_) rfl (by kernel_rfl) (by kernel_rfl) (by kernel_rfl) (fun _ _ _ h => h) (Or.inl ⟨by rfl, ?hy⟩) hHeld ?_
      case hy => ((intro w' hSw; (try dsimp only at hSw); go_simp); (try with_reducible rfl))
      (try simp only [Act.put, List.setIfInBounds_toArray, List.set_cons_zero, List.set_cons_succ])
      refine wpAnyH_take (i := 12) (oi := { dst := some 46, op := Op.load 49 (Operand.tmp 5), type := 49, pos := "law.go:133", after := #[{ on := 10, ground := Ground.guard }], guard := some (10, false) }) (v := ?_) rfl (by kernel_rfl) (by kernel_rfl) (by kernel_rfl) (fun _ _ _ h => h) (Or.inl ⟨by rfl, ?hy⟩) hHeld ?_
      case hy => ((intro w' hSw; (try dsimp only at hSw); go_simp); (try with_reducible rfl))
      (try simp only [Act.put, List.setIfInBounds_toArray, List.set_cons_zero, List.set_cons_succ])
      refine wpAnyH_ready (rs := [13]) (by kernel_rfl) (by simp) ?_
      refine AllReadyH.cons (o := { dst := some 47, op := Op.call { callee := Callee.value (Operand.func 35), args := #[Operand.tmp 45, Operand.tmp 46], argTypes := #[49, 49] }, type := 4, pos := "law.go:133", after := #[{ on := 11, ground := Ground.data }, { on := 12, ground := Ground.data }, { on := 10, ground := Ground.chain }, { on := 10, ground := Ground.guard }], guard := some (10, false) }) rfl (fun K hK => ?_) AllReadyH.nil
      go_simp
      (have hg := hx2; clear hg; go_at_call 35; (with_reducible refine (inside_any (HA.out.ext (XW.out.trans (by (with_reducible (repeat (first | exact Ext.refl _ | assumption | (refine Ext.toSet ?_ (by omega)) | refine Ext.toAlloc ?_ | refine Ext.toDrew ?_ | refine Ext.toDrewN ?_ | refine Ext.trans ?_ (by assumption)))); (first | done | fail "no")))) (HC.out.ext (XW.out.trans (by (with_reducible (repeat (first | exact Ext.refl _ | assumption | (refine Ext.toSet ?_ (by omega)) | refine Ext.toAlloc ?_ | refine Ext.toDrew ?_ | refine Ext.toDrewN ?_ | refine Ext.trans ?_ (by assumption)))); (first | done | fail "no"))))).mono ?_); rw [HSS.out]; rintro e1 v3 ⟨rfl, hx3⟩)
      (try go_wp2_with fail)
      refine hK.out _ _ (HS.out _ (by (with_reducible (repeat (first | exact Ext.refl _ | assumption | (refine Ext.toSet ?_ (by omega)) | refine Ext.toAlloc ?_ | refine Ext.toDrew ?_ | refine Ext.toDrewN ?_ | refine Ext.trans ?_ (by assumption)))); (first | done | fail "no"))) (fun hHeld' => ?_)
      clear hK K hHeld
      have hHeld := hHeld'
      clear hHeld'
      (try simp only [Act.put, List.setIfInBounds_toArray, List.set_cons_zero, List.set_cons_succ])
      refine wpAnyH_take (i := 14) (oi := { dst := some 48, op := Op.move (Operand.tmp 47), type := 4, pos := "law.go:133", after := #[{ on := 13, ground := Ground.data }, { on := 13, ground := Ground.chain }, { on := 10, ground := Ground.guard }], guard := some (10, false) }) (v := ?_) rfl (by kernel_rfl) (by kernel_rfl) (by kernel_rfl) (fun _ _ _ h => h) (Or.inl ⟨by rfl, ?hy⟩) hHeld ?_
      case hy => ((intro w' hSw; (try dsimp only at hSw); go_simp); (try with_reducible rfl))
      (try simp only [Act.put, List.setIfInBounds_toArray, List.set_cons_zero, List.set_cons_succ])
      refine wpAnyH_take (i := 15) (oi := { dst := some 49, op := Op.load 49 (Operand.tmp 4), type := 49, pos := "law.go:133", after := #[{ on := 14, ground := Ground.guard }], guard := some (14, true) }) (v := undef) rfl (by kernel_rfl) (by kernel_rfl) (by kernel_rfl) (fun _ _ _ h => h) (Or.inr ⟨by rfl, rfl⟩) hHeld ?_
      (try simp only [Act.put, List.setIfInBounds_toArray, List.set_cons_zero, List.set_cons_succ])
      refine wpAnyH_take (i := 16) (oi := { dst := some 50, op := Op.load 49 (Operand.tmp 5), type := 49, pos := "law.go:133", after := #[{ on := 14, ground := Ground.guard }], guard := some (14, true) }) (v := undef) rfl (by kernel_rfl) (by kernel_rfl) (by kernel_rfl) (fun _ _ _ h => h) (Or.inr ⟨by rfl, rfl⟩) hHeld ?_
      (try simp only [Act.put, List.setIfInBounds_toArray, List.set_cons_zero, List.set_cons_succ])
      refine wpAnyH_take (i := 18) (oi := { dst := some 52, op := Op.load 49 (Operand.tmp 7), type := 49, pos := "law.go:133", after := #[{ on := 14, ground := Ground.guard }], guard := some (14, true) }) (v := undef) rfl (by kernel_rfl) (by kernel_rfl) (by kernel_rfl) (fun _ _ _ h => h) (Or.inr ⟨by rfl, rfl⟩) hHeld ?_
      (try simp only [Act.put, List.setIfInBounds_toArray, List.set_cons_zero, List.set_cons_succ])
      refine wpAnyH_take (i := 19) (oi := { dst := some 53, op := Op.load 49 (Operand.tmp 5), type := 49, pos := "law.go:133", after := #[{ on := 14, ground := Ground.guard }], guard := some (14, true) }) (v := undef) rfl (by kernel_rfl) (by kernel_rfl) (by kernel_rfl) (fun _ _ _ h => h) (Or.inr ⟨by rfl, rfl⟩) hHeld ?_
      (try simp only [Act.put, List.setIfInBounds_toArray, List.set_cons_zero, List.set_cons_succ])
      refine wpAnyH_take (i := 17) (oi := { dst := some 51, op := Op.call { callee := Callee.value (Operand.func 35), args := #[Operand.tmp 49, Operand.tmp 50], argTypes := #[49, 49] }, type := 4, pos := "law.go:133", after := #[{ on := 15, ground := Ground.data }, { on := 16, ground := Ground.data }, { on := 14, ground := Ground.chain }, { on := 14, ground := Ground.guard }], guard := some (14, true) }) (v := undef) rfl (by kernel_rfl) (by kernel_rfl) (by kernel_rfl) (fun _ _ _ h => h) (Or.inr ⟨by rfl, rfl⟩) hHeld ?_
      (try simp only [Act.put, List.setIfInBounds_toArray, List.set_cons_zero, List.set_cons_succ])
      refine wpAnyH_take (i := 20) (oi := { dst := some 54, op := Op.call { callee := Callee.value (Operand.func 35), args := #[Operand.tmp 52, Operand.tmp 53], argTypes := #[49, 49] }, type := 4, pos := "law.go:133", after := #[{ on := 18, ground := Ground.data }, { on := 19, ground := Ground.data }, { on := 17, ground := Ground.chain }, { on := 14, ground := Ground.guard }], guard := some (14, true) }) (v := undef) rfl (by kernel_rfl) (by kernel_rfl) (by kernel_rfl) (fun _ _ _ h => h) (Or.inr ⟨by rfl, rfl⟩) hHeld ?_
      (try simp only [Act.put, List.setIfInBounds_toArray, List.set_cons_zero, List.set_cons_succ])
      refine wpAnyH_take (i := 21) (oi := { dst := some 55, op := Op.binOp BinOp.neq 4 (Operand.tmp 51) (Operand.tmp 54) 4, type := 4, pos := "law.go:133", after := #[{ on := 17, ground := Ground.data }, { on := 20, ground := Ground.data }, { on := 14, ground := Ground.guard }], guard := some (14, true) }) (v := undef) rfl (by kernel_rfl) (by kernel_rfl) (by kernel_rfl) (fun _ _ _ h => h) (Or.inr ⟨by rfl, rfl⟩) hHeld ?_
      (try simp only [Act.put, List.setIfInBounds_toArray, List.set_cons_zero, List.set_cons_succ])
      refine wpAnyH_take (i := 22) (oi := { dst := some 56, op := Op.pick (Operand.tmp 48) (Operand.tmp 55) (Operand.const (Value.bool false)), type := 4, pos := "law.go:133", after := #[{ on := 14, ground := Ground.data }, { on := 21, ground := Ground.data }, { on := 10, ground := Ground.guard }], guard := some (10, false) }) (v := ?_) rfl (by kernel_rfl) (by kernel_rfl) (by kernel_rfl) (fun _ _ _ h => h) (Or.inl ⟨by rfl, ?hy⟩) hHeld ?_
      case hy => ((intro w' hSw; (try dsimp only at hSw); go_simp); (try with_reducible rfl))
      (try simp only [Act.put, List.setIfInBounds_toArray, List.set_cons_zero, List.set_cons_succ])
      refine wpAnyH_take (i := 23) (oi := { dst := some 57, op := Op.pick (Operand.tmp 44) (Operand.const (Value.bool true)) (Operand.tmp 56), type := 4, pos := "law.go:133", after := #[{ on := 10, ground := Ground.data }, { on := 22, ground := Ground.data }], guard := none }) (v := ?_) rfl (by kernel_rfl) (by kernel_rfl) (by kernel_rfl) (fun _ _ _ h => h) (Or.inl ⟨by rfl, ?hy⟩) hHeld ?_
      case hy => ((intro w' hSw; (try dsimp only at hSw); go_simp); (try with_reducible rfl))
      (try simp only [Act.put, List.setIfInBounds_toArray, List.set_cons_zero, List.set_cons_succ])
      refine wpAnyH_done (by kernel_rfl) ?_ _
      (try refine NoPanic.normal ?_)
      go_wp2_with fail
      go_meet
      exact ⟨rfl, Lib.hid (by (with_reducible (repeat (first | exact Ext.refl _ | assumption | (refine Ext.toSet ?_ (by omega)) | refine Ext.toAlloc ?_ | refine Ext.toDrew ?_ | refine Ext.toDrewN ?_ | refine Ext.trans ?_ (by assumption)))); (first | done | fail "no"))⟩
  case rest =>
    obtain ⟨rfl, hX⟩ := hcut
    have x5 := hX.out
    have XC := Lib.hid (XW.out.trans x5)
    have Q0 := Lib.hid (T0.out.ext x5)
    have Q1 := Lib.hid (T1.out.ext x5)
    have Q2 := Lib.hid (T2.out.ext x5)
    have QM := Lib.hid (TM.out.ext x5)
    have DM5 := Lib.hid (fun (W : World) (x : Ext wc W) => DM'.out W (x5.trans x))
    clear HS T0 T1 T2 TH hX x5 DH' XW EW EM F1 F2 F3 EZ TM DM'
    go_upto_region 7 with fail
    have HN1 := Lib.hid HA.out.nrm; have HN2 := Lib.hid HB.out.nrm
    have HS3 : Hid (∀ w', Ext wc w' → w'.cell? ⟨w.heap.size, 0, none⟩ = some (.bool n1) ∧ w'.cell? ⟨w.heap.size, 1, none⟩ = some (.slice A k1 c1) ∧ w'.cell? ⟨w.heap.size, 2, none⟩ = some (I d1) ∧ w'.cell? ⟨w.heap.size, 3, none⟩ = some (.bool n2) ∧ w'.cell? ⟨w.heap.size, 4, none⟩ = some (.slice B k2 c2) ∧ w'.cell? ⟨w.heap.size, 5, none⟩ = some (I d2) ∧ w'.cell? ⟨w.heap.size + 1, 0, none⟩ = some (.bool n3) ∧ w'.cell? ⟨w.heap.size + 1, 1, none⟩ = some (.slice X k3 c3) ∧ w'.cell? ⟨w.heap.size + 1, 2, none⟩ = some (I d3) ∧ w'.cell? ⟨w.heap.size + 1, 3, none⟩ = some (.bool n4) ∧ w'.cell? ⟨w.heap.size + 1, 4, none⟩ = some (.slice Y k4 c4) ∧ w'.cell? ⟨w.heap.size + 1, 5, none⟩ = some (I d4)) := fun w' e => by
      obtain ⟨⟨i0, i1, i2, i3, i4, i5⟩, iz⟩ := Q0.out.ext e; obtain ⟨⟨j0, j1, j2, j3, j4, j5⟩, jz⟩ := Q1.out.ext e
      exact ⟨i0, i1, i2, i3, i4, i5, j0, j1, j2, j3, j4, j5⟩
    go_cut [10, 11] (fun s10 s11 wx => ∃ p q, s10 = .pointer (some ⟨p, 0, none⟩) ∧ s11 = .pointer (some ⟨q, 0, none⟩) ∧ Hid (Ext wc wx ∧ C6 wx p a A' e1 b B' e2 ∧ C6 wx q x X' e3 y Y' e4))
    case first =>
      clear HA HB HC HT HP Q0 Q1 Q2 NAP QM DM5 F5 F6 F7
      go_region_held3 (fun w' => w'.cell? ⟨w.heap.size, 0, none⟩ = some (.bool n1) ∧ w'.cell? ⟨w.heap.size, 1, none⟩ = some (.slice A k1 c1) ∧ w'.cell? ⟨w.heap.size, 2, none⟩ = some (I d1) ∧ w'.cell? ⟨w.heap.size, 3, none⟩ = some (.bool n2) ∧ w'.cell? ⟨w.heap.size, 4, none⟩ = some (.slice B k2 c2) ∧ w'.cell? ⟨w.heap.size, 5, none⟩ = some (I d2) ∧ w'.cell? ⟨w.heap.size + 1, 0, none⟩ = some (.bool n3) ∧ w'.cell? ⟨w.heap.size + 1, 1, none⟩ = some (.slice X k3 c3) ∧ w'.cell? ⟨w.heap.size + 1, 2, none⟩ = some (I d3) ∧ w'.cell? ⟨w.heap.size + 1, 3, none⟩ = some (.bool n4) ∧ w'.cell? ⟨w.heap.size + 1, 4, none⟩ = some (.slice Y k4 c4) ∧ w'.cell? ⟨w.heap.size + 1, 5, none⟩ = some (I d4)) (first | with_reducible assumption | exact HS3.out _ (by (with_reducible (repeat (first | exact Ext.refl _ | assumption | (refine Ext.toSet ?_ (by omega)) | refine Ext.toAlloc ?_ | refine Ext.toDrew ?_ | refine Ext.toDrewN ?_ | refine Ext.trans ?_ (by assumption)))); (first | done | fail "no")))
        (first
          | (have hg := hx1; clear hg; go_at_call 36; (with_reducible refine (HN2.out _ (XC.out.trans (by (with_reducible (repeat (first | exact Ext.refl _ | assumption | (refine Ext.toSet ?_ (by omega)) | refine Ext.toAlloc ?_ | refine Ext.toDrew ?_ | refine Ext.toDrewN ?_ | refine Ext.trans ?_ (by assumption)))); (first | done | fail "no")))).mono ?_); rintro e w2 ⟨rfl, hx2⟩; have g2 := Ext.size hx2; (try simp only [World.size_alloc] at g2); (first | (have V1 := Lib.hid (U1.out.ext hx2); have V2 := Lib.hid (U2.out.ext hx2); obtain ⟨⟨v10, v11, v12, v13, v14, v15⟩, v1z⟩ := V1.out; obtain ⟨⟨v20, v21, v22, v23, v24, v25⟩, v2z⟩ := V2.out; have l1 := V1.out.lt; have m1 := Nat.ne_of_lt l1; have r1 := Nat.ne_of_gt l1; have l2 := V2.out.lt; have m2 := Nat.ne_of_lt l2; have r2 := Nat.ne_of_gt l2) | ((with_reducible have u2 := one6 hx2); have V2 := Lib.hid u2; have V1 := Lib.hid (U1.out.ext ((Ext.alloc _ _).trans hx2)); clear u2; obtain ⟨⟨v10, v11, v12, v13, v14, v15⟩, v1z⟩ := V1.out; obtain ⟨⟨v20, v21, v22, v23, v24, v25⟩, v2z⟩ := V2.out; have l1 := V1.out.lt; have m1 := Nat.ne_of_lt l1; have r1 := Nat.ne_of_gt l1; have l2 := V2.out.lt; have m2 := Nat.ne_of_lt l2; have r2 := Nat.ne_of_gt l2) | (have V1 := Lib.hid (U1.out.ext hx2); obtain ⟨⟨v10, v11, v12, v13, v14, v15⟩, v1z⟩ := V1.out; have l1 := V1.out.lt; have m1 := Nat.ne_of_lt l1; have r1 := Nat.ne_of_gt l1) | ((with_reducible have uu := two6 hx2); obtain ⟨u1, u2⟩ := uu; have V1 := Lib.hid u1; have V2 := Lib.hid u2; clear u1 u2; obtain ⟨⟨v10, v11, v12, v13, v14, v15⟩, v1z⟩ := V1.out; obtain ⟨⟨v20, v21, v22, v23, v24, v25⟩, v2z⟩ := V2.out; have l1 := V1.out.lt; have m1 := Nat.ne_of_lt l1; have r1 := Nat.ne_of_gt l1; have l2 := V2.out.lt; have m2 := Nat.ne_of_lt l2; have r2 := Nat.ne_of_gt l2) | ((with_reducible have u1 := one6 hx2); have V1 := Lib.hid u1; clear u1; obtain ⟨⟨v10, v11, v12, v13, v14, v15⟩, v1z⟩ := V1.out; have l1 := V1.out.lt; have m1 := Nat.ne_of_lt l1; have r1 := Nat.ne_of_gt l1) | skip))
          | (go_at_call 36; (with_reducible refine (HN1.out _ (XC.out.trans (by (with_reducible (repeat (first | exact Ext.refl _ | assumption | (refine Ext.toSet ?_ (by omega)) | refine Ext.toAlloc ?_ | refine Ext.toDrew ?_ | refine Ext.toDrewN ?_ | refine Ext.trans ?_ (by assumption)))); (first | done | fail "no")))).mono ?_); rintro e w1 ⟨rfl, hx1⟩; have g1 := Ext.size hx1; (try simp only [World.size_drew, World.size_alloc] at g1); (first | ((with_reducible have uu := two6d hx1); obtain ⟨u1, u2⟩ := uu; have U1 := Lib.hid u1; have U2 := Lib.hid u2; clear u1 u2) | ((with_reducible have u1 := one6d hx1); have U1 := Lib.hid u1; clear u1) | skip)))
      all_goals
        go_wp2_with fail
        go_meet
        exact ⟨_, _, rfl, rfl, (by (with_reducible (repeat (first | exact Ext.refl _ | assumption | (refine Ext.toSet ?_ (by omega)) | refine Ext.toAlloc ?_ | refine Ext.toDrew ?_ | refine Ext.toDrewN ?_ | refine Ext.trans ?_ (by assumption)))); (first | done | fail "no")), ⟨by go_simp, by go_simp, by go_simp, by go_simp, by go_simp, by go_simp⟩, ⟨by go_simp, by go_simp, by go_simp, by go_simp, by go_simp, by go_simp⟩⟩
    case rest =>
      obtain ⟨p, q, rfl, rfl, hc⟩ := hcut
      obtain ⟨x6, hp, hq⟩ := hc.out
      have XD := Lib.hid (XC.out.trans x6)
      have P0 := Lib.hid hp; have P1 := Lib.hid hq
      have G2 := Lib.hid (Q2.out.ext x6); have G0 := Lib.hid (Q0.out.ext x6); have G1 := Lib.hid (Q1.out.ext x6)
      have GM := Lib.hid (QM.out.ext x6)
      have DM6 := Lib.hid (fun (W : World) (x : Ext _ W) => DM5.out W (x6.trans x))
      have W0a := HA.out.dya; have W0b := HA.out.dyb; have W1a := HB.out.dya; have W1b := HB.out.dyb
      have DA := Lib.hid W0a; have DBb := Lib.hid W0b; have DX := Lib.hid W1a; have DYy := Lib.hid W1b
      clear hc x6 hp hq Q0 Q1 Q2 XC HN1 HN2 HS3 W0a W0b W1a W1b QM DM5
      obtain ⟨s1, hs1⟩ : ∃ s, cmpD b x = s := ⟨_, rfl⟩; obtain ⟨s2, hs2⟩ : ∃ s, cmpD y a = s := ⟨_, rfl⟩
      have S1 := Lib.hid hs1; have S2 := Lib.hid hs2
      have hnap := NAP.out; rw [hs1, hs2] at hnap; clear hs1 hs2 NAP
      obtain ⟨h1, h2⟩ := hnap
      obtain ⟨z3, hz3⟩ : ∃ z, insB u v M N = z := ⟨_, rfl⟩
      have f7 := F7.out; rw [hz3] at f7
      have Z3 := Lib.hid hz3; clear hz3 F7
      cases hz1 : insB u v a b with
      | true =>
        rw [hz1] at f7
        rw [Bool.true_and] at f7
        have Z1 := Lib.hid hz1; clear hz1
        have Z2 := Lib.hid f7; clear f7
        obtain ⟨i0, i1, i2, i3, i4, i5⟩ := P0.out; obtain ⟨j0, j1, j2, j3, j4, j5⟩ := P1.out
        go_wp2_with (first
          | (have hg := Y6; clear hg; go_at_call 35; (with_reducible refine (inside_any (HC.out.ext (XD.out.trans Y6.out)) (DM6.out _ Y6.out)).mono ?_); rw [Z3.out]; rintro e1 v7 ⟨rfl, hx⟩; have Y7 := Lib.hid (Y6.out.trans hx); clear hx; clear a0 a1 a2 a3 a4 a5 az b0 b1 b2 b3 b4 b5 bz c0 c1 c2 c3 c4 c5 cz d0 d1 d2 d3 d4 d5 dz; obtain ⟨⟨a0, a1, a2, a3, a4, a5⟩, az⟩ := G0.out.ext Y7.out; obtain ⟨⟨b0, b1, b2, b3, b4, b5⟩, bz⟩ := G1.out.ext Y7.out; obtain ⟨⟨c0, c1, c2, c3, c4, c5⟩, cz⟩ := G2.out.ext Y7.out; obtain ⟨⟨d0, d1, d2, d3, d4, d5⟩, dz⟩ := GM.out.ext Y7.out)
          | (have hg := Y5; clear hg; go_at_call 35; (with_reducible refine (inside_any (DM6.out _ Y5.out) (HB.out.ext (XD.out.trans Y5.out))).mono ?_); rw [F6.out]; rintro e1 v6 ⟨rfl, hx⟩; have Y6 := Lib.hid (Y5.out.trans hx); clear hx; clear a0 a1 a2 a3 a4 a5 az b0 b1 b2 b3 b4 b5 bz c0 c1 c2 c3 c4 c5 cz d0 d1 d2 d3 d4 d5 dz; obtain ⟨⟨a0, a1, a2, a3, a4, a5⟩, az⟩ := G0.out.ext Y6.out; obtain ⟨⟨b0, b1, b2, b3, b4, b5⟩, bz⟩ := G1.out.ext Y6.out; obtain ⟨⟨c0, c1, c2, c3, c4, c5⟩, cz⟩ := G2.out.ext Y6.out; obtain ⟨⟨d0, d1, d2, d3, d4, d5⟩, dz⟩ := GM.out.ext Y6.out)
          | (have hg := Y4; clear hg; go_at_call 35; (with_reducible refine (inside_any (DM6.out _ Y4.out) (HA.out.ext (XD.out.trans Y4.out))).mono ?_); rw [F5.out]; rintro e1 v5 ⟨rfl, hx⟩; have Y5 := Lib.hid (Y4.out.trans hx); clear hx; clear a0 a1 a2 a3 a4 a5 az b0 b1 b2 b3 b4 b5 bz c0 c1 c2 c3 c4 c5 cz d0 d1 d2 d3 d4 d5 dz; obtain ⟨⟨a0, a1, a2, a3, a4, a5⟩, az⟩ := G0.out.ext Y5.out; obtain ⟨⟨b0, b1, b2, b3, b4, b5⟩, bz⟩ := G1.out.ext Y5.out; obtain ⟨⟨c0, c1, c2, c3, c4, c5⟩, cz⟩ := G2.out.ext Y5.out; obtain ⟨⟨d0, d1, d2, d3, d4, d5⟩, dz⟩ := GM.out.ext Y5.out)
          | (have hg := Y3; clear hg; go_at_call 35; (with_reducible refine (inside_any (HC.out.ext (XD.out.trans Y3.out)) (HB.out.ext (XD.out.trans Y3.out))).mono ?_); rw [Z2.out]; rintro e1 v4 ⟨rfl, hx⟩; have Y4 := Lib.hid (Y3.out.trans hx); clear hx; clear a0 a1 a2 a3 a4 a5 az b0 b1 b2 b3 b4 b5 bz c0 c1 c2 c3 c4 c5 cz d0 d1 d2 d3 d4 d5 dz; obtain ⟨⟨a0, a1, a2, a3, a4, a5⟩, az⟩ := G0.out.ext Y4.out; obtain ⟨⟨b0, b1, b2, b3, b4, b5⟩, bz⟩ := G1.out.ext Y4.out; obtain ⟨⟨c0, c1, c2, c3, c4, c5⟩, cz⟩ := G2.out.ext Y4.out; obtain ⟨⟨d0, d1, d2, d3, d4, d5⟩, dz⟩ := GM.out.ext Y4.out)
          | (have hg := Y2; clear hg; go_at_call 35; (with_reducible refine (inside_any (HC.out.ext (XD.out.trans Y2.out)) (HA.out.ext (XD.out.trans Y2.out))).mono ?_); rw [Z1.out]; rintro e1 v3 ⟨rfl, hx⟩; have Y3 := Lib.hid (Y2.out.trans hx); clear hx; clear a0 a1 a2 a3 a4 a5 az b0 b1 b2 b3 b4 b5 bz c0 c1 c2 c3 c4 c5 cz d0 d1 d2 d3 d4 d5 dz; obtain ⟨⟨a0, a1, a2, a3, a4, a5⟩, az⟩ := G0.out.ext Y3.out; obtain ⟨⟨b0, b1, b2, b3, b4, b5⟩, bz⟩ := G1.out.ext Y3.out; obtain ⟨⟨c0, c1, c2, c3, c4, c5⟩, cz⟩ := G2.out.ext Y3.out; obtain ⟨⟨d0, d1, d2, d3, d4, d5⟩, dz⟩ := GM.out.ext Y3.out)
          | (have hg := Y1; clear hg; go_at_call 20; (with_reducible refine (cmp_any (DYy.out.ext (XD.out.trans Y1.out)) (DA.out.ext (XD.out.trans Y1.out))).mono ?_); rw [S2.out]; rintro e1 v2 ⟨rfl, hx⟩; have Y2 := Lib.hid (Y1.out.trans hx); clear hx i0 i1 i2 i3 i4 i5 j0 j1 j2 j3 j4 j5; obtain ⟨⟨a0, a1, a2, a3, a4, a5⟩, az⟩ := G0.out.ext Y2.out; obtain ⟨⟨b0, b1, b2, b3, b4, b5⟩, bz⟩ := G1.out.ext Y2.out; obtain ⟨⟨c0, c1, c2, c3, c4, c5⟩, cz⟩ := G2.out.ext Y2.out; obtain ⟨⟨d0, d1, d2, d3, d4, d5⟩, dz⟩ := GM.out.ext Y2.out)
          | (go_at_call 20; (with_reducible refine (cmp_any (DBb.out.ext (XD.out.trans (Ext.refl _))) (DX.out.ext (XD.out.trans (Ext.refl _)))).mono ?_); rw [S1.out]; rintro e1 v1 ⟨rfl, hx⟩; have Y1 := Lib.hid hx; clear i0 i1 i2 i3 i4 i5 j0 j1 j2 j3 j4 j5; obtain ⟨i0, i1, i2, i3, i4, i5⟩ := P0.out.ext hx; obtain ⟨j0, j1, j2, j3, j4, j5⟩ := P1.out.ext hx; clear hx))
        go_ret
        exact ⟨rfl, XD.out.trans Y7.out⟩
      | false =>
        rw [hz1] at f7
        rw [Bool.false_and] at f7; subst f7
        have Z1 := Lib.hid hz1; clear hz1
        obtain ⟨i0, i1, i2, i3, i4, i5⟩ := P0.out; obtain ⟨j0, j1, j2, j3, j4, j5⟩ := P1.out
        go_wp2_with (first
          | (have hg := Y5; clear hg; go_at_call 35; (with_reducible refine (inside_any (HC.out.ext (XD.out.trans Y5.out)) (DM6.out _ Y5.out)).mono ?_); rw [Z3.out]; rintro e1 v6 ⟨rfl, hx⟩; have Y6 := Lib.hid (Y5.out.trans hx); clear hx; clear a0 a1 a2 a3 a4 a5 az b0 b1 b2 b3 b4 b5 bz c0 c1 c2 c3 c4 c5 cz d0 d1 d2 d3 d4 d5 dz; obtain ⟨⟨a0, a1, a2, a3, a4, a5⟩, az⟩ := G0.out.ext Y6.out; obtain ⟨⟨b0, b1, b2, b3, b4, b5⟩, bz⟩ := G1.out.ext Y6.out; obtain ⟨⟨c0, c1, c2, c3, c4, c5⟩, cz⟩ := G2.out.ext Y6.out; obtain ⟨⟨d0, d1, d2, d3, d4, d5⟩, dz⟩ := GM.out.ext Y6.out)
          | (have hg := Y4; clear hg; go_at_call 35; (with_reducible refine (inside_any (DM6.out _ Y4.out) (HB.out.ext (XD.out.trans Y4.out))).mono ?_); rw [F6.out]; rintro e1 v5 ⟨rfl, hx⟩; have Y5 := Lib.hid (Y4.out.trans hx); clear hx; clear a0 a1 a2 a3 a4 a5 az b0 b1 b2 b3 b4 b5 bz c0 c1 c2 c3 c4 c5 cz d0 d1 d2 d3 d4 d5 dz; obtain ⟨⟨a0, a1, a2, a3, a4, a5⟩, az⟩ := G0.out.ext Y5.out; obtain ⟨⟨b0, b1, b2, b3, b4, b5⟩, bz⟩ := G1.out.ext Y5.out; obtain ⟨⟨c0, c1, c2, c3, c4, c5⟩, cz⟩ := G2.out.ext Y5.out; obtain ⟨⟨d0, d1, d2, d3, d4, d5⟩, dz⟩ := GM.out.ext Y5.out)
          | (have hg := Y3; clear hg; go_at_call 35; (with_reducible refine (inside_any (DM6.out _ Y3.out) (HA.out.ext (XD.out.trans Y3.out))).mono ?_); rw [F5.out]; rintro e1 v4 ⟨rfl, hx⟩; have Y4 := Lib.hid (Y3.out.trans hx); clear hx; clear a0 a1 a2 a3 a4 a5 az b0 b1 b2 b3 b4 b5 bz c0 c1 c2 c3 c4 c5 cz d0 d1 d2 d3 d4 d5 dz; obtain ⟨⟨a0, a1, a2, a3, a4, a5⟩, az⟩ := G0.out.ext Y4.out; obtain ⟨⟨b0, b1, b2, b3, b4, b5⟩, bz⟩ := G1.out.ext Y4.out; obtain ⟨⟨c0, c1, c2, c3, c4, c5⟩, cz⟩ := G2.out.ext Y4.out; obtain ⟨⟨d0, d1, d2, d3, d4, d5⟩, dz⟩ := GM.out.ext Y4.out)
          | (have hg := Y2; clear hg; go_at_call 35; (with_reducible refine (inside_any (HC.out.ext (XD.out.trans Y2.out)) (HA.out.ext (XD.out.trans Y2.out))).mono ?_); rw [Z1.out]; rintro e1 v3 ⟨rfl, hx⟩; have Y3 := Lib.hid (Y2.out.trans hx); clear hx; clear a0 a1 a2 a3 a4 a5 az b0 b1 b2 b3 b4 b5 bz c0 c1 c2 c3 c4 c5 cz d0 d1 d2 d3 d4 d5 dz; obtain ⟨⟨a0, a1, a2, a3, a4, a5⟩, az⟩ := G0.out.ext Y3.out; obtain ⟨⟨b0, b1, b2, b3, b4, b5⟩, bz⟩ := G1.out.ext Y3.out; obtain ⟨⟨c0, c1, c2, c3, c4, c5⟩, cz⟩ := G2.out.ext Y3.out; obtain ⟨⟨d0, d1, d2, d3, d4, d5⟩, dz⟩ := GM.out.ext Y3.out)
          | (have hg := Y1; clear hg; go_at_call 20; (with_reducible refine (cmp_any (DYy.out.ext (XD.out.trans Y1.out)) (DA.out.ext (XD.out.trans Y1.out))).mono ?_); rw [S2.out]; rintro e1 v2 ⟨rfl, hx⟩; have Y2 := Lib.hid (Y1.out.trans hx); clear hx i0 i1 i2 i3 i4 i5 j0 j1 j2 j3 j4 j5; obtain ⟨⟨a0, a1, a2, a3, a4, a5⟩, az⟩ := G0.out.ext Y2.out; obtain ⟨⟨b0, b1, b2, b3, b4, b5⟩, bz⟩ := G1.out.ext Y2.out; obtain ⟨⟨c0, c1, c2, c3, c4, c5⟩, cz⟩ := G2.out.ext Y2.out; obtain ⟨⟨d0, d1, d2, d3, d4, d5⟩, dz⟩ := GM.out.ext Y2.out)
          | (go_at_call 20; (with_reducible refine (cmp_any (DBb.out.ext (XD.out.trans (Ext.refl _))) (DX.out.ext (XD.out.trans (Ext.refl _)))).mono ?_); rw [S1.out]; rintro e1 v1 ⟨rfl, hx⟩; have Y1 := Lib.hid hx; clear i0 i1 i2 i3 i4 i5 j0 j1 j2 j3 j4 j5; obtain ⟨i0, i1, i2, i3, i4, i5⟩ := P0.out.ext hx; obtain ⟨j0, j1, j2, j3, j4, j5⟩ := P1.out.ext hx; clear hx))
        go_ret
        exact ⟨rfl, XD.out.trans Y6.out⟩

end Go.Proofs.YtaljininilaemaaDoor
