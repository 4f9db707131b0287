/- The law IntervalMakes: where it holds something (written by gimk.py). -/
import Derived.Test.YtlnphamgmicniaaGreatDoorImka
namespace Go.Proofs.YtlnphamgmicniaaGreatDoor
open Go.RowKit
attribute [local go_sem ↓] Go.wp_at_zero Go.wp_at_succ

set_option maxRecDepth 100000 in
set_option maxHeartbeats 40000000 in
theorem makes_true {w : World} {n1 n2 : Bool} {A B A' B' : Option Addr} {k1 c1 e1 k2 c2 e2 : Nat} {d1 d2 : Int} {x y : DV} {p q : Int} (ha : Dy w n1 A k1 c1 d1 x A' e1) (hb : Dy w n2 B k2 c2 d2 y B' e2) (hT : Tabs w) (hP : TabP w) (h : shOk k1 d1 ∧ shOk k2 d2) (ex : End x) (ey : End y)
    (p1 : -9223372036854775808 ≤ p) (p2 : p ≤ 9223372036854775807) (q1 : -9223372036854775808 ≤ q) (q2 : q ≤ 9223372036854775807) :
    Calls Tryz.prog 5 #[dv n1 A k1 c1 d1, dv n2 B k2 c2 d2, .agg #[I p, I q]] w fun e w' => e = .returned (.bool true) ∧ Ext w w' := by
  have HT := Lib.hid hT; have HP := Lib.hid hP; clear hP
  have HB := Lib.hid (decide_eq_true h).symm
  obtain ⟨u, v, ev, cd, m1, m2, m3, lu, lv⟩ := make_both ha hb (bd_end ex) (bd_end ey) hT
  have M1 := Lib.hid m1; have M2 := Lib.hid m2; have M3 := Lib.hid m3
  have lx : len x.m ≤ 1048576 := ex.2
  have lx2 : Hid (len x.m ≤ 1073741824) := Nat.le_trans lx (by decide)
  have ly : Hid (len y.m ≤ 4194304) := Nat.le_trans ey.2 (by decide)
  have HX1 := Lib.hid lx
  have bo1 := bd_of p p1 p2
  have bo2 := bd_of q q1 q2
  have sm (n : Int) (h1 : -9223372036854775808 ≤ n) (h2 : n ≤ 9223372036854775807) : End (ofI n 0) := ⟨ofI_ok _ _, Nat.le_trans (len_mono (mkD_m_le _ _ _)) (Nat.le_trans (len_le (n := 2) (by unfold pB; omega)) (by decide))⟩
  obtain ⟨L, hL⟩ : ∃ L, lo2 (ofI p 0) (ofI q 0) = L := ⟨_, rfl⟩
  obtain ⟨H, hH⟩ : ∃ H, hi2 (ofI p 0) (ofI q 0) = H := ⟨_, rfl⟩
  have EL : Hid (End L) := by show End _; rw [← hL]; exact sz_min (P := End) (sm p p1 p2) (sm q q1 q2)
  have EH : Hid (End H) := by show End _; rw [← hH]; exact sz_max (P := End) (sm p p1 p2) (sm q q1 q2)
  have LE : Hid (L.q ≤ H.q) := by show _ ≤ _; rw [← hL, ← hH]; exact lo2_le bo1.1 bo2.1
  have HI1 := Lib.hid (fun (w' : World) (e : Ext w w') => iints_any (w := w') p q p1 p2 q1 q2 (hT.ext e))
  have HI2 := Lib.hid (fun (w' : World) => riints_any (w := w') p q p1 p2 q1 q2)
  rw [hL, hH] at HI1 HI2
  have LL : Hid (len L.m ≤ 1073741824 ∧ len H.m ≤ 1073741824) := ⟨Nat.le_trans EL.out.2 (by decide), Nat.le_trans EH.out.2 (by decide)⟩
  obtain ⟨U, hU⟩ : ∃ U, lo2 (mulD L x) (mulD H x) = U := ⟨_, rfl⟩
  obtain ⟨V, hV⟩ : ∃ V, hi2 (mulD L x) (mulD H x) = V := ⟨_, rfl⟩
  have LU : Hid (len U.m ≤ 1073741824 ∧ len V.m ≤ 1073741824) := by
    have b1 := bd_mul (a := L) (x := x) EL.out.2 lx
    have b2 := bd_mul (a := H) (x := x) EH.out.2 lx
    have c1 := (sz_min (P := Bd) b1 b2).2
    have c2 := (sz_max (P := Bd) b1 b2).2
    rw [show minD (mulD L x) (mulD H x) = U from hU] at c1
    rw [show maxD (mulD L x) (mulD H x) = V from hV] at c2
    exact ⟨by omega, by omega⟩
  have EU := Lib.hid hU; have EV := Lib.hid hV
  have HA := Lib.hid ha; have HBy := Lib.hid hb; have LM := Lib.hid (And.intro lu lv)
  clear ha hb hT h ex ey p1 p2 q1 q2 m1 m2 m3 lu lv lx bo1 bo2 sm hL hH hU hV
  obtain ⟨s1, s2, s3, x0⟩ := mk_boxes w n1 n2 A B k1 c1 k2 c2 d1 d2 p q
  have X0 := Lib.hid x0; have S1 := Lib.hid s1; have S2 := Lib.hid s2; have S3 := Lib.hid s3
  obtain ⟨a0, a1, a2⟩ := s1
  obtain ⟨b0, b1, b2⟩ := s2
  obtain ⟨i0, i1⟩ := s3
  clear x0
  generalize hW : ((w.alloc (.cells #[.bool n1, .slice A k1 c1, I d1] 25)).alloc (.cells #[.bool n2, .slice B k2 c2, I d2] 25)).alloc (.cells #[I p, I q] 44) = W0 at *
  have KP : Hid (∀ w', Ext W0 w' → w'.cell? ⟨w.heap.size + 1 + 1, 0, none⟩ = some (I p) ∧ w'.cell? ⟨w.heap.size + 1 + 1, 1, none⟩ = some (I q)) := fun w' e => ⟨(e.old.1 _ _ (World.block_lt_of_cell? W0 _ S3.out.1)).trans S3.out.1, (e.old.1 _ _ (World.block_lt_of_cell? W0 _ S3.out.1)).trans S3.out.2⟩
  go_enter Tryz.func5, Tryz.ntmps5
  go_upto_region 1 with fail
  (try rw [hW])
  clear hW
  go_wp2_with (first
    | (go_at_call 44; (with_reducible refine (HI1.out _ (X0.out.trans (Y5.out.trans (Ext.alloc _ _)))).mono ?_); rintro e w6 ⟨P6, f6, Q6, g6, rfl, hfa, hfb, hx⟩; have F6 := Lib.hid (And.intro hfa hfb); have T6 := Lib.hid hx; clear hx hfa hfb)
    | (go_at_call 43; (with_reducible refine (ipoint_any (HA.out.ext (X0.out.trans (Y4.out.trans (Ext.alloc _ _)))) (HT.out.ext (X0.out.trans (Y4.out.trans (Ext.alloc _ _))))).mono ?_); rintro e w5 ⟨P5, f5, Q5, g5, rfl, hfa, hfb, hx⟩; have F5 := Lib.hid (And.intro hfa hfb); have T5 := Lib.hid hx; have Y5 := Lib.hid (Y4.out.trans ((Ext.alloc _ _).trans hx)); clear hx hfa hfb a0 a1 a2; obtain ⟨i0, i1⟩ := KP.out _ (Y5.out.trans (Ext.alloc w5 (.cells #[.bool x.neg, .slice P5 (len x.m) f5, I x.den, .bool x.neg, .slice Q5 (len x.m) g5, I x.den] 37))))
    | (go_at_call 42; (with_reducible refine (M2.out _ (X0.out.trans (Y3.out.trans (Ext.alloc _ _)))).mono ?_); rintro e w4 ⟨P4, f4, Q4, g4, rfl, hr, hx⟩; have R4 := Lib.hid hr; have T4 := Lib.hid hx; have Y4 := Lib.hid (Y3.out.trans ((Ext.alloc _ _).trans hx)); clear hx hr a0 a1 a2 b0 b1 b2; obtain ⟨a0, a1, a2⟩ := S1.out.ext (Y4.out.trans (Ext.alloc w4 (.cells #[.bool u.neg, .slice P4 (len u.m) f4, I u.den, .bool v.neg, .slice Q4 (len v.m) g4, I v.den] 37))))
    | (go_at_call 41; (with_reducible refine (M1.out _ (X0.out.trans Y2.out)).mono ?_); rintro e w3 ⟨P3, f3, Q3, g3, rfl, hr, hx⟩; have R3 := Lib.hid hr; have Y3 := Lib.hid (Y2.out.trans hx); clear hx hr a0 a1 a2 b0 b1 b2; obtain ⟨a0, a1, a2⟩ := S1.out.ext (Y3.out.trans (Ext.alloc w3 (.cells #[.bool u.neg, .slice P3 (len u.m) f3, I u.den, .bool v.neg, .slice Q3 (len v.m) g3, I v.den] 37))); obtain ⟨b0, b1, b2⟩ := S2.out.ext (Y3.out.trans (Ext.alloc w3 (.cells #[.bool u.neg, .slice P3 (len u.m) f3, I u.den, .bool v.neg, .slice Q3 (len v.m) g3, I v.den] 37))))
    | (go_at_call 14; (with_reducible refine (iawake_any _ (HT.out.ext (X0.out.trans Y1.out)) (HP.out.ext (X0.out.trans Y1.out))).mono ?_); rintro e w2 ⟨rfl, hx⟩; have Y2 := Lib.hid (Y1.out.trans hx); clear hx a0 a1 a2 b0 b1 b2 i0 i1; obtain ⟨a0, a1, a2⟩ := S1.out.ext Y2.out; obtain ⟨b0, b1, b2⟩ := S2.out.ext Y2.out)
    | (go_at_call 40; (with_reducible refine (short6 (S6.new _ _ _ _ _ _ _ _) HB.out).mono ?_); rintro e w1 ⟨rfl, hx⟩; have Y1 := Lib.hid ((Ext.alloc _ _).trans hx); clear hx))
  have Z4 := Lib.hid ((Ext.alloc w5 (.cells #[.bool x.neg, .slice P5 (len x.m) f5, I x.den, .bool x.neg, .slice Q5 (len x.m) g5, I x.den] 37)).trans (T6.out.trans (Ext.alloc w6 (.cells #[.bool L.neg, .slice P6 (len L.m) f6, I L.den, .bool H.neg, .slice Q6 (len H.m) g6, I H.den] 37))))
  have Z3 := Lib.hid ((Ext.alloc w4 (.cells #[.bool u.neg, .slice P4 (len u.m) f4, I u.den, .bool v.neg, .slice Q4 (len v.m) g4, I v.den] 37)).trans (T5.out.trans Z4.out))
  have Z2 := Lib.hid (T4.out.trans Z3.out)
  have Ba := Lib.hid ((B6.new w3 _ _ _ _ _ _ _).ext Z2.out)
  have Bb := Lib.hid ((B6.new w4 _ _ _ _ _ _ _).ext (T5.out.trans Z4.out))
  have Bc := Lib.hid ((B6.new w5 _ _ _ _ _ _ _).ext (T6.out.trans (Ext.alloc w6 (.cells #[.bool L.neg, .slice P6 (len L.m) f6, I L.den, .bool H.neg, .slice Q6 (len H.m) g6, I H.den] 37))))
  have Bd' := Lib.hid (B6.new w6 (.bool L.neg) (.slice P6 (len L.m) f6) (I L.den) (.bool H.neg) (.slice Q6 (len H.m) g6) (I H.den) 37)
  have ZA := Lib.hid (Y5.out.trans Z4.out)
  have RA := Lib.hid (R3.out.ext ((Ext.alloc w3 (.cells #[.bool u.neg, .slice P3 (len u.m) f3, I u.den, .bool v.neg, .slice Q3 (len v.m) g3, I v.den] 37)).trans Z2.out))
  have RB := Lib.hid (R4.out.ext Z3.out)
  have RC : Hid (RdI (w6.alloc (.cells #[.bool L.neg, .slice P6 (len L.m) f6, I L.den, .bool H.neg, .slice Q6 (len H.m) g6, I H.den] 37)) x x P5 f5 Q5 g5) := RdI.ext ⟨F5.out.1.rd, F5.out.2.rd⟩ Z4.out
  have FD := Lib.hid (And.intro (F6.out.1.ext (Ext.alloc w6 (.cells #[.bool L.neg, .slice P6 (len L.m) f6, I L.den, .bool H.neg, .slice Q6 (len H.m) g6, I H.den] 37))) (F6.out.2.ext (Ext.alloc w6 (.cells #[.bool L.neg, .slice P6 (len L.m) f6, I L.den, .bool H.neg, .slice Q6 (len H.m) g6, I H.den] 37))))
  have RD : Hid (RdI (w6.alloc (.cells #[.bool L.neg, .slice P6 (len L.m) f6, I L.den, .bool H.neg, .slice Q6 (len H.m) g6, I H.den] 37)) L H P6 f6 Q6 g6) := RdI.ext ⟨F6.out.1.rd, F6.out.2.rd⟩ (Ext.alloc w6 (.cells #[.bool L.neg, .slice P6 (len L.m) f6, I L.den, .bool H.neg, .slice Q6 (len H.m) g6, I H.den] 37))
  clear i0 i1 R3 R4 F5 F6 Z2 Z3 Z4 T4 T5 T6 Y1 Y2 Y3 Y4 Y5 M1 M2 HI1
  generalize w6.alloc (.cells #[.bool L.neg, .slice P6 (len L.m) f6, I L.den, .bool H.neg, .slice Q6 (len H.m) g6, I H.den] 37) = W7 at *
  generalize w3.heap.size = ga at *
  generalize w4.heap.size = gb at *
  generalize w5.heap.size = gc at *
  generalize hgd : w6.heap.size = gd at *
  have HEW := Lib.hid (X0.out.trans (ZA.out.trans (Ext.drew W7)))
  have HS : Hid (∀ w', Ext W7.drew w' → w'.cell? ⟨w.heap.size, 0, none⟩ = some (.bool n1) ∧ w'.cell? ⟨w.heap.size, 1, none⟩ = some (.slice A k1 c1) ∧ w'.cell? ⟨w.heap.size, 2, none⟩ = some (I d1) ∧ w'.cell? ⟨w.heap.size + 1, 0, none⟩ = some (.bool n2) ∧ w'.cell? ⟨w.heap.size + 1, 1, none⟩ = some (.slice B k2 c2) ∧ w'.cell? ⟨w.heap.size + 1, 2, none⟩ = some (I d2) ∧ w'.cell? ⟨w.heap.size + 1 + 1, 0, none⟩ = some (I p) ∧ w'.cell? ⟨w.heap.size + 1 + 1, 1, none⟩ = some (I q) ∧ w'.cell? ⟨ga, 0, none⟩ = some (.bool u.neg) ∧ w'.cell? ⟨ga, 1, none⟩ = some (.slice P3 (len u.m) f3) ∧ w'.cell? ⟨ga, 2, none⟩ = some (I u.den) ∧ w'.cell? ⟨ga, 3, none⟩ = some (.bool v.neg) ∧ w'.cell? ⟨ga, 4, none⟩ = some (.slice Q3 (len v.m) g3) ∧ w'.cell? ⟨ga, 5, none⟩ = some (I v.den) ∧ w'.cell? ⟨gb, 0, none⟩ = some (.bool u.neg) ∧ w'.cell? ⟨gb, 1, none⟩ = some (.slice P4 (len u.m) f4) ∧ w'.cell? ⟨gb, 2, none⟩ = some (I u.den) ∧ w'.cell? ⟨gb, 3, none⟩ = some (.bool v.neg) ∧ w'.cell? ⟨gb, 4, none⟩ = some (.slice Q4 (len v.m) g4) ∧ w'.cell? ⟨gb, 5, none⟩ = some (I v.den) ∧ w'.cell? ⟨gc, 0, none⟩ = some (.bool x.neg) ∧ w'.cell? ⟨gc, 1, none⟩ = some (.slice P5 (len x.m) f5) ∧ w'.cell? ⟨gc, 2, none⟩ = some (I x.den) ∧ w'.cell? ⟨gc, 3, none⟩ = some (.bool x.neg) ∧ w'.cell? ⟨gc, 4, none⟩ = some (.slice Q5 (len x.m) g5) ∧ w'.cell? ⟨gc, 5, none⟩ = some (I x.den) ∧ w'.cell? ⟨gd, 0, none⟩ = some (.bool L.neg) ∧ w'.cell? ⟨gd, 1, none⟩ = some (.slice P6 (len L.m) f6) ∧ w'.cell? ⟨gd, 2, none⟩ = some (I L.den) ∧ w'.cell? ⟨gd, 3, none⟩ = some (.bool H.neg) ∧ w'.cell? ⟨gd, 4, none⟩ = some (.slice Q6 (len H.m) g6) ∧ w'.cell? ⟨gd, 5, none⟩ = some (I H.den)) := fun w' e => by
    have e' := (Ext.drew W7).trans e
    obtain ⟨x0, x1, x2⟩ := S1.out.ext (ZA.out.trans e')
    obtain ⟨y0, y1, y2⟩ := S2.out.ext (ZA.out.trans e')
    obtain ⟨n0, n1'⟩ := KP.out _ (ZA.out.trans e')
    obtain ⟨⟨j0, j1, j2, j3, j4, j5⟩, _⟩ := Ba.out.ext e'
    obtain ⟨⟨l0, l1, l2, l3, l4, l5⟩, _⟩ := Bb.out.ext e'
    obtain ⟨⟨m0, m1, m2, m3, m4, m5⟩, _⟩ := Bc.out.ext e'
    obtain ⟨⟨o0, o1, o2, o3, o4, o5⟩, _⟩ := Bd'.out.ext e'
    exact ⟨x0, x1, x2, y0, y1, y2, n0, n1', j0, j1, j2, j3, j4, j5, l0, l1, l2, l3, l4, l5, m0, m1, m2, m3, m4, m5, o0, o1, o2, o3, o4, o5⟩
  have IW := Lib.hid (fun (w' : World) (e : Ext W7.drew w') => IvRes.at_ FD.out.1 FD.out.2 EL.out EH.out LE.out ((Ext.drew W7).trans e))
  have C2 := Lib.hid (fun (w' : World) (e : Ext W7.drew w') => same_rd (RA.out.ext ((Ext.drew W7).trans e)) (RB.out.ext ((Ext.drew W7).trans e)) LM.out.1 LM.out.2 (c := f3) (e := g3) (k := f4) (l := g4))
  have C4 := Lib.hid (fun (w' : World) (e : Ext W7.drew w') => same_rd (RC.out.ext ((Ext.drew W7).trans e)) (⟨HA.out.rd.ext (HEW.out.trans e), HA.out.rd.ext (HEW.out.trans e)⟩ : RdI w' x x A' e1 A' e1) lx2.out lx2.out (c := f5) (e := g5) (k := e1) (l := e1))
  have DX := Lib.hid (fun (w' : World) (e : Ext W7.drew w') => HA.out.ext (HEW.out.trans e))
  have DY := Lib.hid (fun (w' : World) (e : Ext W7.drew w') => HBy.out.ext (HEW.out.trans e))
  have TT := Lib.hid (fun (w' : World) (e : Ext W7.drew w') => HT.out.ext (HEW.out.trans e))
  have RDW := Lib.hid (fun (w' : World) (e : Ext W7.drew w') => RD.out.ext ((Ext.drew W7).trans e))
  clear Ba Bb Bc Bd' RA RB RC RD FD S1 S2 S3 KP X0 ZA HT HP HB HA HBy hgd LM lx2
  go_region_held3 (fun w' => w'.cell? ⟨w.heap.size, 0, none⟩ = some (.bool n1) ∧ w'.cell? ⟨w.heap.size, 1, none⟩ = some (.slice A k1 c1) ∧ w'.cell? ⟨w.heap.size, 2, none⟩ = some (I d1) ∧ w'.cell? ⟨w.heap.size + 1, 0, none⟩ = some (.bool n2) ∧ w'.cell? ⟨w.heap.size + 1, 1, none⟩ = some (.slice B k2 c2) ∧ w'.cell? ⟨w.heap.size + 1, 2, none⟩ = some (I d2) ∧ w'.cell? ⟨w.heap.size + 1 + 1, 0, none⟩ = some (I p) ∧ w'.cell? ⟨w.heap.size + 1 + 1, 1, none⟩ = some (I q) ∧ w'.cell? ⟨ga, 0, none⟩ = some (.bool u.neg) ∧ w'.cell? ⟨ga, 1, none⟩ = some (.slice P3 (len u.m) f3) ∧ w'.cell? ⟨ga, 2, none⟩ = some (I u.den) ∧ w'.cell? ⟨ga, 3, none⟩ = some (.bool v.neg) ∧ w'.cell? ⟨ga, 4, none⟩ = some (.slice Q3 (len v.m) g3) ∧ w'.cell? ⟨ga, 5, none⟩ = some (I v.den) ∧ w'.cell? ⟨gb, 0, none⟩ = some (.bool u.neg) ∧ w'.cell? ⟨gb, 1, none⟩ = some (.slice P4 (len u.m) f4) ∧ w'.cell? ⟨gb, 2, none⟩ = some (I u.den) ∧ w'.cell? ⟨gb, 3, none⟩ = some (.bool v.neg) ∧ w'.cell? ⟨gb, 4, none⟩ = some (.slice Q4 (len v.m) g4) ∧ w'.cell? ⟨gb, 5, none⟩ = some (I v.den) ∧ w'.cell? ⟨gc, 0, none⟩ = some (.bool x.neg) ∧ w'.cell? ⟨gc, 1, none⟩ = some (.slice P5 (len x.m) f5) ∧ w'.cell? ⟨gc, 2, none⟩ = some (I x.den) ∧ w'.cell? ⟨gc, 3, none⟩ = some (.bool x.neg) ∧ w'.cell? ⟨gc, 4, none⟩ = some (.slice Q5 (len x.m) g5) ∧ w'.cell? ⟨gc, 5, none⟩ = some (I x.den) ∧ w'.cell? ⟨gd, 0, none⟩ = some (.bool L.neg) ∧ w'.cell? ⟨gd, 1, none⟩ = some (.slice P6 (len L.m) f6) ∧ w'.cell? ⟨gd, 2, none⟩ = some (I L.den) ∧ w'.cell? ⟨gd, 3, none⟩ = some (.bool H.neg) ∧ w'.cell? ⟨gd, 4, none⟩ = some (.slice Q6 (len H.m) g6) ∧ w'.cell? ⟨gd, 5, none⟩ = some (I H.den)) (first | with_reducible assumption | exact HS.out _ (by (with_reducible (repeat (first | exact Ext.refl _ | assumption | (refine Ext.toSet ?_ (by omega)) | refine Ext.toAlloc ?_ | refine Ext.toDrew ?_ | refine Ext.toDrewN ?_ | refine Ext.trans ?_ (by assumption)))); (first | done | fail "no")))
    (first
      | (have hg := hx10; clear hg; go_at_call 50; (with_reducible refine (ricontains_any (IW.out _ (by (with_reducible (repeat (first | exact Ext.refl _ | assumption | (refine Ext.toSet ?_ (by omega)) | refine Ext.toAlloc ?_ | refine Ext.toDrew ?_ | refine Ext.toDrewN ?_ | refine Ext.trans ?_ (by assumption)))); (first | done | fail "no"))) (DY.out _ (by (with_reducible (repeat (first | exact Ext.refl _ | assumption | (refine Ext.toSet ?_ (by omega)) | refine Ext.toAlloc ?_ | refine Ext.toDrew ?_ | refine Ext.toDrewN ?_ | refine Ext.trans ?_ (by assumption)))); (first | done | fail "no"))) ly.out).mono ?_); rintro e w11 ⟨rfl, hx11⟩)
      | (have hg := hx9; clear hg; go_at_call 49; (with_reducible refine (contains_any (IW.out _ (by (with_reducible (repeat (first | exact Ext.refl _ | assumption | (refine Ext.toSet ?_ (by omega)) | refine Ext.toAlloc ?_ | refine Ext.toDrew ?_ | refine Ext.toDrewN ?_ | refine Ext.trans ?_ (by assumption)))); (first | done | fail "no"))) (DY.out _ (by (with_reducible (repeat (first | exact Ext.refl _ | assumption | (refine Ext.toSet ?_ (by omega)) | refine Ext.toAlloc ?_ | refine Ext.toDrew ?_ | refine Ext.toDrewN ?_ | refine Ext.trans ?_ (by assumption)))); (first | done | fail "no")))).mono ?_); rintro e w10 ⟨rfl, hx10⟩)
      | (have hg := hx8; clear hg; go_at_call 15; (with_reducible refine (same_rd (R7.out.ext (by (with_reducible (repeat (first | exact Ext.refl _ | assumption | (refine Ext.toSet ?_ (by omega)) | refine Ext.toAlloc ?_ | refine Ext.toDrew ?_ | refine Ext.toDrewN ?_ | refine Ext.trans ?_ (by assumption)))); (first | done | fail "no"))) (R8.out.ext (by (with_reducible (repeat (first | exact Ext.refl _ | assumption | (refine Ext.toSet ?_ (by omega)) | refine Ext.toAlloc ?_ | refine Ext.toDrew ?_ | refine Ext.toDrewN ?_ | refine Ext.trans ?_ (by assumption)))); (first | done | fail "no"))) LU.out.1 LU.out.2).mono ?_); rintro e w9 ⟨rfl, hx9⟩)
      | (have hg := hx7; clear hg; go_at_call 48; (with_reducible refine (riscale_any (IW.out _ (by (with_reducible (repeat (first | exact Ext.refl _ | assumption | (refine Ext.toSet ?_ (by omega)) | refine Ext.toAlloc ?_ | refine Ext.toDrew ?_ | refine Ext.toDrewN ?_ | refine Ext.trans ?_ (by assumption)))); (first | done | fail "no"))) (DX.out _ (by (with_reducible (repeat (first | exact Ext.refl _ | assumption | (refine Ext.toSet ?_ (by omega)) | refine Ext.toAlloc ?_ | refine Ext.toDrew ?_ | refine Ext.toDrewN ?_ | refine Ext.trans ?_ (by assumption)))); (first | done | fail "no"))) HX1.out).mono ?_); rw [EU.out, EV.out]; rintro e w8 ⟨P8, f8, Q8, g8, rfl, hfa, hfb, hx8⟩; have R8 : Hid (RdI w8 U V P8 f8 Q8 g8) := ⟨hfa.rd, hfb.rd⟩; clear hfa hfb)
      | (have hg := hx6; clear hg; go_at_call 47; (with_reducible refine (scale_any (IW.out _ (by (with_reducible (repeat (first | exact Ext.refl _ | assumption | (refine Ext.toSet ?_ (by omega)) | refine Ext.toAlloc ?_ | refine Ext.toDrew ?_ | refine Ext.toDrewN ?_ | refine Ext.trans ?_ (by assumption)))); (first | done | fail "no"))) (DX.out _ (by (with_reducible (repeat (first | exact Ext.refl _ | assumption | (refine Ext.toSet ?_ (by omega)) | refine Ext.toAlloc ?_ | refine Ext.toDrew ?_ | refine Ext.toDrewN ?_ | refine Ext.trans ?_ (by assumption)))); (first | done | fail "no"))) (TT.out _ (by (with_reducible (repeat (first | exact Ext.refl _ | assumption | (refine Ext.toSet ?_ (by omega)) | refine Ext.toAlloc ?_ | refine Ext.toDrew ?_ | refine Ext.toDrewN ?_ | refine Ext.trans ?_ (by assumption)))); (first | done | fail "no"))) HX1.out).mono ?_); rw [EU.out, EV.out]; rintro e w7 ⟨P7, f7, Q7, g7, rfl, hfa, hfb, hx7⟩; have R7 : Hid (RdI w7 U V P7 f7 Q7 g7) := ⟨hfa.rd, hfb.rd⟩; clear hfa hfb)
      | (have hg := hx5; clear hg; go_at_call 15; (with_reducible refine (same_rd (RDW.out _ (by (with_reducible (repeat (first | exact Ext.refl _ | assumption | (refine Ext.toSet ?_ (by omega)) | refine Ext.toAlloc ?_ | refine Ext.toDrew ?_ | refine Ext.toDrewN ?_ | refine Ext.trans ?_ (by assumption)))); (first | done | fail "no"))) (R5.out.ext (by (with_reducible (repeat (first | exact Ext.refl _ | assumption | (refine Ext.toSet ?_ (by omega)) | refine Ext.toAlloc ?_ | refine Ext.toDrew ?_ | refine Ext.toDrewN ?_ | refine Ext.trans ?_ (by assumption)))); (first | done | fail "no"))) LL.out.1 LL.out.2).mono ?_); rintro e w6' ⟨rfl, hx6⟩)
      | (have hg := hx4; clear hg; go_at_call 46; (with_reducible refine (HI2.out _).mono ?_); rintro e w5' ⟨P9, f9, Q9, g9, rfl, hfa, hfb, hx5⟩; have R5 : Hid (RdI w5' L H P9 f9 Q9 g9) := ⟨hfa.rd, hfb.rd⟩; clear hfa hfb)
      | (have hg := hx3; clear hg; go_at_call 15; (with_reducible refine (C4.out _ (by (with_reducible (repeat (first | exact Ext.refl _ | assumption | (refine Ext.toSet ?_ (by omega)) | refine Ext.toAlloc ?_ | refine Ext.toDrew ?_ | refine Ext.toDrewN ?_ | refine Ext.trans ?_ (by assumption)))); (first | done | fail "no"))).mono ?_); rintro e w4' ⟨rfl, hx4⟩)
      | (have hg := hx2; clear hg; go_at_call 45; (with_reducible refine (rpoint_any (DX.out _ (by (with_reducible (repeat (first | exact Ext.refl _ | assumption | (refine Ext.toSet ?_ (by omega)) | refine Ext.toAlloc ?_ | refine Ext.toDrew ?_ | refine Ext.toDrewN ?_ | refine Ext.trans ?_ (by assumption)))); (first | done | fail "no")))).mono ?_); rintro e w3' ⟨rfl, hx3⟩)
      | (have hg := hx1; clear hg; go_at_call 15; (with_reducible refine (C2.out _ (by (with_reducible (repeat (first | exact Ext.refl _ | assumption | (refine Ext.toSet ?_ (by omega)) | refine Ext.toAlloc ?_ | refine Ext.toDrew ?_ | refine Ext.toDrewN ?_ | refine Ext.trans ?_ (by assumption)))); (first | done | fail "no"))).mono ?_); rintro e w2' ⟨rfl, hx2⟩)
      | (go_at_call 10; (with_reducible refine (M3.out _).mono ?_); rintro e w1' ⟨rfl, hx1⟩))
  all_goals
    have HF := Lib.hid (HEW.out.trans (show Ext W7.drew w11 from (by (with_reducible (repeat (first | exact Ext.refl _ | assumption | (refine Ext.toSet ?_ (by omega)) | refine Ext.toAlloc ?_ | refine Ext.toDrew ?_ | refine Ext.toDrewN ?_ | refine Ext.trans ?_ (by assumption)))); (first | done | fail "no"))))
    go_wp2_with fail
    go_ret
    exact ⟨by simp, HF.out⟩
end Go.Proofs.YtlnphamgmicniaaGreatDoor
