import Derived.Test.YtgnngldlgcdnfaaGreatDoorRad
import Derived.Test.YtgnngldlgcdnfaaGreatDoorQaq
namespace Go.Proofs.YtgnngldlgcdnfaaGreatDoor
section
open Go Go.RowKit
def EvP (D : Dia) (n : Nat) (b : Nat → Bool) (S : Nat → IV) (w : World) (e : Ending) (w' : World) : Prop :=
 (evE D n b S ≠ 0 ∧ e = .returned (.tuple #[.slice none 0 0, .iface 48 (I (evE D n b S))]) ∧ Ext w w') ∨
 (evE D n b S = 0 ∧ ∃ g R, e = .returned (.tuple #[.slice (some ⟨g, 0, none⟩) D.nb D.nb, .nilIface]) ∧ BuI w w' g D.nb R (tkI D S))
theorem EvP.ext {D : Dia} {n : Nat} {b : Nat → Bool} {S : Nat → IV} {w : World} {e : Ending} {w' : World} (h : EvP D n b S w e w') : Ext w w' := by
 rcases h with ⟨_, _, h⟩ | ⟨_, g, R, _, h⟩
 ·exact h
 ·exact h.ext
theorem evE_hit {D : Dia} {n : Nat} {b : Nat → Bool} {S : Nat → IV} {v : Int} (h : evE D n b S = v) (hv : v ≠ 0) {w w' : World} {e : Ending} (he : e = .returned (.tuple #[.slice none 0 0, .iface 48 (I v)])) (hx : Ext w w') : EvP D n b S w e w' :=
 .inl ⟨by rw [h]; exact hv, by rw [h]; exact he, hx⟩
theorem cell_far6g {w : World} {g h i0 i1 i2 i3 i4 i5 : Nat} {u0 u1 u2 u3 u4 u5 : Value} (hne : h ≠ g) {k : Nat} : ((((((w.setCell ⟨g, i0, none⟩ u0).setCell ⟨g, i1, none⟩ u1).setCell ⟨g, i2, none⟩ u2).setCell ⟨g, i3, none⟩ u3).setCell ⟨g, i4, none⟩ u4).setCell ⟨g, i5, none⟩ u5).cell? ⟨h, k, none⟩ = w.cell? ⟨h, k, none⟩ := by
 rw [World.cell?_setCell_other _ _ _ _ (by intro q; injection q with q1 q2; omega), World.cell?_setCell_other _ _ _ _ (by intro q; injection q with q1 q2; omega), World.cell?_setCell_other _ _ _ _ (by intro q; injection q with q1 q2; omega), World.cell?_setCell_other _ _ _ _ (by intro q; injection q with q1 q2; omega), World.cell?_setCell_other _ _ _ _ (by intro q; injection q with q1 q2; omega), World.cell?_setCell_other _ _ _ _ (by intro q; injection q with q1 q2; omega)]
def IvN (x : IV) (w : World) (e : Ending) (w' : World) : Prop := ∃ rr : RI, e = .returned rr.v ∧ CnI w' rr x ∧ NwI w.heap.size rr x ∧ Ext w w'
theorem IvN.of {w : World} {x : IV} {f : FuncId} {args : Array Value} (h : Calls Tryz.prog f args w (IvRes x.lo x.hi w)) (g : GdI x) : Calls Tryz.prog f args w (IvN x w) := h.mono fun e w' hr => by
 obtain ⟨A, c, B, k, h1, h2, h3, h4⟩ := hr.cn g.1 g.2.1 g.2.2
 exact ⟨_, h1, h2, h3, h4⟩
theorem ciR_at (R : Nat → RI) (x : Nat) (r : RI) : putI R x r x = r := if_pos rfl
set_option maxRecDepth 100000 in
set_option maxHeartbeats 1000000 in
theorem evaluate_shape {w : World} {D : Dia} {p : Pl} {Ao Ad As Ai : Option Addr} {lo ld co cd ns' cs n ci : Nat} {b : Nat → Bool} {S : Nat → IV} (hld : (delL D).length = ld) (hn : n ≠ ld) :
  Calls Tryz.prog 55 #[anv D p Ao lo co Ad ld cd As ns' cs, .slice Ai n ci] w (EvP D n b S w) := by
 have g0 : ((n : Int) != (ld : Int)) = true := by simp; omega
 have HV : Hid (evE D n b S = 11) := by show _ = _; unfold evE; rw [if_pos (by omega)]
 go_enter Tryz.func55, Tryz.ntmps55
 go_wp2_with fail
 go_ret2
 exact evE_hit HV.out (by decide) rfl ext3
set_option maxRecDepth 100000 in
set_option maxHeartbeats 4000000 in
theorem evaluate_any {w : World} {D : Dia} {p : Pl} {Ao Ad As Ai : Option Addr} {lo ld co cd ns' cs n ci : Nat} {R : Nat → RI} {S : Nat → IV} {b : Nat → Bool} (d : Dm w D p) (ok : OkD D) (hT : Tabs w) (hld : (delL D).length = ld) (hlo : (ordL D).length = lo)
  (rd : Rl w Ad cd (delL D)) (ro : Rl w Ao co (ordL D)) (rs : RnI w Ai n R) (el : ∀ k, k < n → ElI w (R k) (S k) (b k)) :
  Calls Tryz.prog 55 #[anv D p Ao lo co Ad ld cd As ns' cs, .slice Ai n ci] w (EvP D n b S w) := by
 by_cases hnl : n ≠ ld
 ·exact evaluate_shape hld hnl
 obtain rfl : n = ld := by omega
 clear hnl
 have hdl := del_le D
 have hol := ord_le D
 have hnb := ok.nb
 have hmk := fun w => run_makeI w D.nb (by omega)
 obtain ⟨W1, hW1⟩ : ∃ W1, W1 = w.alloc (.cells #[.slice p.AI D.ni p.cI, .slice p.AB D.nb p.cB, .slice p.AO D.no p.cO, .slice Ao lo co, .slice Ad n cd, .slice As ns' cs] 102) := ⟨_, rfl⟩
 have hE : Ext w W1 := by rw [hW1]; exact Ext.alloc _ _
 have HB : Hid (B6A W1 w.heap.size D p Ao lo co Ad n cd As ns' cs) := by show B6A _ _ _ _ _ _ _ _ _ _ _ _ _; rw [hW1]; exact B6.new _ _ _ _ _ _ _ _
 have HD := Lib.hid (d.ext hE); have HT := Lib.hid (hT.ext hE); have HRD := Lib.hid (rd.ext hE); have HRO := Lib.hid (ro.ext hE); have HRS := Lib.hid (rs.ext hE)
 have HL : Hid (∀ k, k < n → ElI W1 (R k) (S k) (b k)) := fun k hk => (el k hk).ext hE
 have OK := Lib.hid ok; have HE := Lib.hid hE; have HLD := Lib.hid hld; have HLO := Lib.hid hlo
 obtain ⟨⟨c0, c1, c2, c3, c4, c5⟩, _⟩ := HB.out
 have hz1 : W1.heap.size = w.heap.size + 1 := by rw [hW1]; simp
 have HZ := Lib.hid hz1
 have g0 : ((n : Int) != (n : Int)) = false := by simp
 rw [hld] at hdl
 rw [hlo] at hol
 obtain ⟨v, hv⟩ : ∃ v, evE D n b S = v := ⟨_, rfl⟩
 have HV := Lib.hid hv
 clear d ok hT rd ro rs el hE hz1 hld hlo hv
 go_enter Tryz.func55, Tryz.ntmps55
 go_upto_region 1 with fail
 rw [← hW1]; clear hW1
 go_wp2_with fail
 clear c0 c1 c2 c3 c4 c5
 go_loopw [22] (fun s wr => ∃ j : Nat, j ≤ n ∧ s = I j ∧ Ext W1 wr ∧ Hid (∀ k, k < j → b k = true)) (fun s _ => n - (intOf s).toNat)
 case atStart => exact ⟨0, Nat.zero_le _, rfl, Ext.refl _, fun k hk => absurd hk (by omega)⟩
 case round =>
  obtain ⟨j, hj, rfl, hx, HG⟩ := hrel
  by_cases hlt : j < n
  ·obtain ⟨bs, os, rfl, hbs, hcs⟩ := HRS.out.ext hx (by omega)
   obtain ⟨x0, x1, x2, x3, x4, x5⟩ := hcs j hlt
   have HVC := Lib.hid ((HL.out j hlt).vc)
   have hlt' : (j : Int) < (n : Int) := by omega
   clear hcs hmk
   cases hb : b j with
   | true =>
    have HG2 : Hid (∀ k, k < j + 1 → b k = true) := fun k hk => by
     by_cases h : k = j
     ·subst h; exact hb
     ·exact HG.out k (by omega)
    rw [hb] at HVC
    clear hb
    generalize R j = rj at *
    go_wp2_with (go_at_call 116; (with_reducible refine (HVC.out _ (hx.trans (Ext.alloc _ _))).mono ?_); rintro e1 w1 ⟨rfl, h1⟩; replace hx := (hx.trans (Ext.alloc _ _)).trans h1; clear h1)
    go_roundw
    case rel => exact ⟨j + 1, by omega, by go_num, hx, HG2⟩
    case measure => simp [intOf]; omega
   | false =>
    obtain rfl : v = 2 := by
     rw [← HV.out]; unfold evE
     rw [if_neg (by have := HLD.out; omega), if_pos (allN_false.2 ⟨j, hlt, hb⟩)]
    rw [hb] at HVC
    clear hb
    generalize R j = rj at *
    go_wp2_with (go_at_call 116; (with_reducible refine (HVC.out _ (hx.trans (Ext.alloc _ _))).mono ?_); rintro e1 w1 ⟨rfl, h1⟩; replace hx := (hx.trans (Ext.alloc _ _)).trans h1; clear h1)
    go_ret2
    exact evE_hit HV.out (by decide) rfl (HE.out.trans hx)
  ·obtain rfl : j = n := by omega
   have HBB : Hid (∀ k, k < j → b k = true) := HG.out
   have HCI : Hid (∀ k, k < j → CnI W1 (R k) (S k)) := fun k hk => (HL.out k hk).cn (HBB.out k hk)
   have HVE : Hid (v = if tkH D S = false then 4 else 0) := by
    show v = _
    rw [← HV.out]; unfold evE
    rw [if_neg (by have := HLD.out; omega), if_neg (by rw [allN_iff.2 HBB.out]; decide)]
   obtain ⟨⟨c0, c1, c2, c3, c4, c5⟩, _⟩ := HB.out.ext hx
   obtain ⟨g, hg⟩ : ∃ g, wr.heap.size = g := ⟨_, rfl⟩
   have HM0 : Hid (BuI w (wr.alloc (.cells (madeCells #[.bool false, .slice none 0 0, I 0, .bool false, .slice none 0 0, I 0] (D.nb * 6)) 58)) g D.nb (fun _ => RI.z) (v1I D S 0) ∧ Ext W1 (wr.alloc (.cells (madeCells #[.bool false, .slice none 0 0, I 0, .bool false, .slice none 0 0, I 0] (D.nb * 6)) 58))) :=
    ⟨(BuI.new _ (HE.out.trans hx) hg.symm).congr fun i _ => (v1I_zero D S i).symm, hx.trans (Ext.alloc _ _)⟩
   have hgW : W1.heap.size ≤ g := by rw [← hg]; exact hx.size
   have HGW := Lib.hid hgW
   have hz1 := HZ.out
   have hne1 : ¬ w.heap.size = g := by omega
   have hne2 : ¬ g = w.heap.size := by omega
   have hne3 : ¬ w.heap.size = wr.heap.size := by omega
   have hne4 : w.heap.size < wr.heap.size := by omega
   clear hlt hj HL HG
   go_upto_region 10 with fail
   obtain ⟨wz, hwz⟩ : ∃ wz, wz = wr.alloc (.cells (madeCells #[.bool false, .slice none 0 0, I 0, .bool false, .slice none 0 0, I 0] (D.nb * 6)) 58) := ⟨_, rfl⟩
   rw [← hwz] at HM0
   (try rw [hg])
   rw [← hwz]
   clear hwz hmk c0 c1 c2 c3 c4 c5 hx hg hz1 hne3 hne4
   obtain ⟨⟨c0, c1, c2, c3, c4, c5⟩, _⟩ := HB.out.ext HM0.out.2
   go_wp2_with fail
   clear c0 c1 c2 c3 c4 c5
   go_loopw [39] (fun s wr => ∃ (q : Nat) (R' : Nat → RI), q ≤ j ∧ s = I q ∧ Hid (BuI w wr g D.nb R' (v1I D S q) ∧ Ext W1 wr ∧ ∀ k, k < q → lngI (S k) = false)) (fun s _ => j - (intOf s).toNat)
   case atStart => exact ⟨0, _, Nat.zero_le _, rfl, HM0.out.1, HM0.out.2, fun k hk => absurd hk (by omega)⟩
   case round =>
    clear HM0
    obtain ⟨q, R', hq, rfl, H⟩ := hrel
    by_cases hlt : q < j
    ·have hq' : q < (delL D).length := by rw [HLD.out]; exact hlt
     obtain ⟨bd, od, hbd, hbld, hcd⟩ := (HRD.out.ext H.out.2.1).1 (by omega)
     have xd := hcd q hq'
     obtain ⟨x, hxd⟩ : ∃ x, (delL D).getD q 0 = x := ⟨_, rfl⟩
     have hx := del_at hq'
     simp only [hxd] at xd hx
     obtain ⟨bs, os, hbs, hbls, hcs⟩ := HRS.out.ext H.out.2.1 (by omega)
     obtain ⟨s0, s1, s2, s3, s4, s5⟩ := hcs q hlt
     have cn := (HCI.out q hlt).ext H.out.2.1
     have HUP : Hid (∀ i, i < D.nb → putI (v1I D S q) x (S q) i = v1I D S (q + 1) i) := fun i hi => by rw [← hxd]; exact v1I_put S hq' hi
     have hlt' : (q : Int) < (j : Int) := by omega
     have hxl : (x : Int) < (D.nb : Int) := by omega
     have hxn := hx.1
     have HLO2 : Hid (∀ w', Ext wr w' → Calls Tryz.prog 117 #[(R q).v] w' fun e w'' => e = .returned (.bool (lngI (S q))) ∧ Ext w' w'') := fun w' e => isLong_any (cn.ext e)
     cases hlg : lngI (S q) with
     | true =>
      obtain rfl : v = 4 := by rw [HVE.out, if_pos (tkH_del hq' hlg)]
      rw [hlg] at HLO2
      clear hcd hcs hx hq' cn hlg
      generalize R q = rj at *
      go_wp2_with (go_at_call 117; (with_reducible refine (HLO2.out _ (Ext.refl _)).mono ?_); rintro e1 w1 ⟨rfl, h1⟩; have HX1 := Lib.hid h1; clear h1)
      go_ret2
      exact evE_hit HV.out (by decide) rfl (HE.out.trans (H.out.2.1.trans HX1.out))
     | false =>
      have HFR : Hid (∀ w', Ext wr w' → Calls Tryz.prog 118 #[(R q).v] w' (IvRes (S q).lo (S q).hi w')) := fun w' e => rfresh_any (cn.ext e) (HT.out.ext (H.out.2.1.trans e))
      have HGD : Hid (GdI (S q)) := cn.gd
      have HGL : Hid (∀ k, k < q + 1 → lngI (S k) = false) := fun k hk => by
       by_cases h : k = q
       ·subst h; exact hlg
       ·exact H.out.2.2 k (by omega)
      rw [hlg] at HLO2
      clear hcd hcs hx hq' cn hlg
      generalize R q = rj at *
      go_upto_region 15 with (go_at_call 117; (with_reducible refine (HLO2.out _ (Ext.refl _)).mono ?_); rintro e1 w1 ⟨rfl, h1⟩; have HX1 := Lib.hid h1; clear h1)
      have t0 := (HX1.out.old.1 _ _ hbls).trans s0
      have t1 := (HX1.out.old.1 _ _ hbls).trans s1
      have t2 := (HX1.out.old.1 _ _ hbls).trans s2
      have t3 := (HX1.out.old.1 _ _ hbls).trans s3
      have t4 := (HX1.out.old.1 _ _ hbls).trans s4
      have t5 := (HX1.out.old.1 _ _ hbls).trans s5
      go_wp2_with (go_at_call 118; (with_reducible refine (HFR.out _ HX1.out).mono ?_); rintro e1 w2 hr; obtain ⟨A1, y1, B1, z1, rfl, cn1, hA1, hx1⟩ := hr.cn HGD.out.1 HGD.out.2.1 HGD.out.2.2; have hx2 := HX1.out.trans hx1; have fz := (H.out.1.to hx2).lv.frozen; have f0 := fz (x * 6); have f1 := fz (x * 6 + 1); have f2 := fz (x * 6 + 2); have f3 := fz (x * 6 + 3); have f4 := fz (x * 6 + 4); have f5 := fz (x * 6 + 5); obtain ⟨d0, d1, d2, d3, d4, d5⟩ := (H.out.1.to hx2).lv.cells hxn; have HP := Lib.hid (H.out.1.put hx2 x _ _ cn1 (hA1.mono HX1.out.size)); have HXX : Hid (Ext W1 _) := st6_ext g x (ciR ⟨(S q).lo, (S q).hi⟩ A1 y1 B1 z1) (H.out.2.1.trans hx2) HGW.out; clear hr fz cn1 hA1 hx1 hx2)
      (try rw [← hbs])
      (try rw [← hbd])
      go_roundw
      case rel => exact ⟨q + 1, _, by omega, by go_num, HP.out.congr HUP.out, HXX.out, HGL.out⟩
      case measure => simp [intOf]; omega
    ·obtain rfl : q = j := by omega
     have HM1 : Hid (BuI w wr g D.nb R' (vkI D S 0) ∧ Ext W1 wr) := ⟨H.out.1.congr fun i hi => by rw [← HLD.out]; exact v1I_end S hi, H.out.2.1⟩
     have HSH : Hid (∀ k, k < q → lngI (S k) = false) := H.out.2.2
     obtain ⟨⟨c0, c1, c2, c3, c4, c5⟩, _⟩ := HB.out.ext H.out.2.1
     clear H hlt hq
     go_wp2_with fail
     clear c0 c1 c2 c3 c4 c5
     go_loopw [62] (fun s wq => ∃ (k : Nat) (R' : Nat → RI), k ≤ lo ∧ s = I k ∧ Hid (BuI w wq g D.nb R' (vkI D S k) ∧ Ext W1 wq ∧ ∀ m, m < k → lngI (tkI D S ((ordL D).getD m 0)) = false)) (fun s _ => lo - (intOf s).toNat)
     case atStart => exact ⟨0, _, Nat.zero_le _, rfl, HM1.out.1, HM1.out.2, fun k hk => absurd hk (by omega)⟩
     case round =>
      clear HM1
      obtain ⟨k, R2, hk, rfl, H⟩ := hrel
      by_cases hlt2 : k < lo
      ·have hk' : k < (ordL D).length := by rw [HLO.out]; exact hlt2
       obtain ⟨bo, oo, hbo, hblo, hco⟩ := (HRO.out.ext H.out.2.1).1 (by omega)
       have xo := hco k hk'
       have hrd := ord_rdy hk'
       have hnd : isD D ((ordL D).getD k 0) = false := (rdy_iff.1 hrd.2.1).2.1
       have htk := tkI_ord OK.out S hk'
       have hsh : ∀ z, z < ns D ((ordL D).getD k 0) → ShI (vkI D S k (sr D ((ordL D).getD k 0) z)) := fun z hz => by
        have hs := OK.out.src hrd.1 hz
        have hoff := src_off OK.out hk' hz
        refine (H.out.1.lv.el _ hs.2.1).gd.sh ?_
        rw [vkI_done S hoff]
        rcases (rdy_iff.1 hrd.2.1).2.2 z hz with a | a
        ·obtain ⟨m, hm1, hm2, hm3⟩ := inL_take.1 a
         rw [← hm3]; exact H.out.2.2 m hm1
        ·rw [tkI_del S a]; exact HSH.out _ (by rw [← HLD.out]; exact (plc_lt hs.2.1 a).1)
       have hgd : GdI (tkI D S ((ordL D).getD k 0)) := by rw [← htk.1]; exact bvI_gd OK.out hrd.1 hsh
       have HUP : Hid (∀ i, i < D.nb → putI (vkI D S k) ((ordL D).getD k 0) (tkI D S ((ordL D).getD k 0)) i = vkI D S (k + 1) i) := fun i _ => by rw [vkI_succ D S hk', htk.1]
       obtain ⟨x, hxd⟩ : ∃ x, (ordL D).getD k 0 = x := ⟨_, rfl⟩
       have HVA : Hid (∀ w', Ext wr w' → Calls Tryz.prog 119 #[anv D p Ao lo co Ad q cd As ns' cs, bkv (D.B x).k (p.AA x) (D.B x).n (p.cA x) (D.B x).vn (D.B x).ve (D.B x).un (D.B x).ue, .slice (some ⟨g, 0, none⟩) D.nb D.nb] w' (IvN (tkI D S x) w')) := fun w' e => by
        rw [← hxd]
        refine IvN.of ?_ hgd
        rw [← htk.1]
        exact rangeOf_any (HD.out.ext (H.out.2.1.trans e)) OK.out (HT.out.ext (H.out.2.1.trans e)) hrd.1 hnd (H.out.1.lv.ln.ext e) hsh
       have HBAD : Hid (lngI (tkI D S x) = true → v = 4) := fun h => by rw [HVE.out, if_pos (tkH_ord hk' (by rw [hxd]; exact h))]
       have HGD : Hid (lngI (tkI D S x) = false → ∀ m, m < k + 1 → lngI (tkI D S ((ordL D).getD m 0)) = false) := fun h m hm => by
        by_cases z : m = k
        ·rw [z, hxd]; exact h
        ·exact H.out.2.2 m (by omega)
       have hxn := hrd.1
       simp only [hxd] at xo hgd HUP hxn
       obtain ⟨bq, oq, hb, hbl, hc⟩ := (HD.out.ext H.out.2.1).blocks (by omega)
       obtain ⟨x0, x1, x2, x3, x4, x5⟩ := hc x hxn
       obtain ⟨⟨k0, k1, k2, k3, k4, k5⟩, _⟩ := HB.out.ext H.out.2.1
       have k1' := k1
       rw [hb] at k1'
       have k3' := k3
       rw [hbo] at k3'
       have hl0 : w.heap.size < wr.heap.size := (HB.out.ext H.out.2.1).lt
       have HS : Hid (∀ w', Ext wr w' → (w'.cell? ⟨w.heap.size, 0, none⟩ = some (.slice p.AI D.ni p.cI) ∧ w'.cell? ⟨w.heap.size, 1, none⟩ = some (.slice (some ⟨bq, oq, none⟩) D.nb p.cB) ∧ w'.cell? ⟨w.heap.size, 2, none⟩ = some (.slice p.AO D.no p.cO) ∧ w'.cell? ⟨w.heap.size, 3, none⟩ = some (.slice (some ⟨bo, oo, none⟩) lo co) ∧ w'.cell? ⟨w.heap.size, 4, none⟩ = some (.slice Ad q cd) ∧ w'.cell? ⟨w.heap.size, 5, none⟩ = some (.slice As ns' cs)) ∧
         (w'.cell? ⟨bq, oq + x * 6, none⟩ = some (I (D.B x).k) ∧ w'.cell? ⟨bq, oq + x * 6 + 1, none⟩ = some (.slice (p.AA x) (D.B x).n (p.cA x)) ∧ w'.cell? ⟨bq, oq + x * 6 + 2, none⟩ = some (I (D.B x).vn) ∧ w'.cell? ⟨bq, oq + x * 6 + 3, none⟩ = some (I (D.B x).ve) ∧ w'.cell? ⟨bq, oq + x * 6 + 4, none⟩ = some (I (D.B x).un) ∧ w'.cell? ⟨bq, oq + x * 6 + 5, none⟩ = some (I (D.B x).ue))) := fun w' e =>
        ⟨⟨(e.old.1 _ _ hl0).trans k0, (e.old.1 _ _ hl0).trans k1', (e.old.1 _ _ hl0).trans k2, (e.old.1 _ _ hl0).trans k3', (e.old.1 _ _ hl0).trans k4, (e.old.1 _ _ hl0).trans k5⟩, (e.old.1 _ _ hbl).trans x0, (e.old.1 _ _ hbl).trans x1, (e.old.1 _ _ hbl).trans x2, (e.old.1 _ _ hbl).trans x3, (e.old.1 _ _ hbl).trans x4, (e.old.1 _ _ hbl).trans x5⟩
       have hbg : ¬ bq = g := by
        obtain ⟨b', o', e', hb', _⟩ := (HD.out.blocks (by omega))
        rw [hb] at e'; injection e' with e'; injection e' with e1 e2
        have := HGW.out; omega
       have hgb : ¬ g = bq := fun z => hbg z.symm
       have HEV : Hid (anv D p Ao lo co Ad q cd As ns' cs = .agg #[.slice p.AI D.ni p.cI, .slice (some ⟨bq, oq, none⟩) D.nb p.cB, .slice p.AO D.no p.cO, .slice (some ⟨bo, oo, none⟩) lo co, .slice Ad q cd, .slice As ns' cs]) := by show _ = _; unfold anv; rw [hb, hbo]
       rw [HEV.out] at HVA
       have HCN := Lib.hid hgd
       have hxl : (x : Int) < (D.nb : Int) := by omega
       have hlt2' : (k : Int) < (lo : Int) := by omega
       clear hco hc hgd hrd hnd htk hk' hb hsh
       obtain ⟨⟨y0, y1, y2, y3, y4, y4'⟩, y5, y6, y7, y8, y9, y10⟩ := HS.out wr (Ext.refl _)
       clear k0 k1 k1' k2 k3 k3' k4 k5 x0 x1 x2 x3 x4 x5
       generalize tkI D S x = yv at *
       go_upto_region 20 with fail
       go_region_held3 (fun w' => (w'.cell? ⟨w.heap.size, 0, none⟩ = some (.slice p.AI D.ni p.cI) ∧ w'.cell? ⟨w.heap.size, 1, none⟩ = some (.slice (some ⟨bq, oq, none⟩) D.nb p.cB) ∧ w'.cell? ⟨w.heap.size, 2, none⟩ = some (.slice p.AO D.no p.cO) ∧ w'.cell? ⟨w.heap.size, 3, none⟩ = some (.slice (some ⟨bo, oo, none⟩) lo co) ∧ w'.cell? ⟨w.heap.size, 4, none⟩ = some (.slice Ad q cd) ∧ w'.cell? ⟨w.heap.size, 5, none⟩ = some (.slice As ns' cs)) ∧
         (w'.cell? ⟨bq, oq + x * 6, none⟩ = some (I (D.B x).k) ∧ w'.cell? ⟨bq, oq + x * 6 + 1, none⟩ = some (.slice (p.AA x) (D.B x).n (p.cA x)) ∧ w'.cell? ⟨bq, oq + x * 6 + 2, none⟩ = some (I (D.B x).vn) ∧ w'.cell? ⟨bq, oq + x * 6 + 3, none⟩ = some (I (D.B x).ve) ∧ w'.cell? ⟨bq, oq + x * 6 + 4, none⟩ = some (I (D.B x).un) ∧ w'.cell? ⟨bq, oq + x * 6 + 5, none⟩ = some (I (D.B x).ue))) (first | exact HS.out _ ex2 | (refine ⟨⟨?_, ?_, ?_, ?_, ?_, ?_⟩, ?_, ?_, ?_, ?_, ?_, ?_⟩ <;> (rw [cell_far6g (by omega)]; assumption)))
        (first
        | (go_at_call 119; (with_reducible refine (HVA.out _ ex2).mono ?_); rintro e1 w2 ⟨rr, rfl, cn1, hA1, hx1⟩; have CN2 := Lib.hid cn1; have hx3 : Ext wr w2 := ex2; have HX2 := Lib.hid hx3; have HA1 : Hid (NwI wr.heap.size rr yv) := hA1; obtain ⟨⟨t0, t1, t2, t3, t4, t4'⟩, t5, t6, t7, t8, t9, t10⟩ := HS.out w2 hx3; have fz := (H.out.1.to hx3).lv.frozen; have f0 := fz (x * 6); have f1 := fz (x * 6 + 1); have f2 := fz (x * 6 + 2); have f3 := fz (x * 6 + 3); have f4 := fz (x * 6 + 4); have f5 := fz (x * 6 + 5); obtain ⟨d0, d1, d2, d3, d4, d5⟩ := (H.out.1.to hx3).lv.cells hxn; clear fz cn1 hA1))
       all_goals
        have hp0 := H.out.1.put HX2.out x rr yv CN2.out HA1.out
        have hxx0 := st6_ext g x rr (H.out.2.1.trans HX2.out) HGW.out
        obtain ⟨wy, hwy⟩ : ∃ wy, wy = (((((w2.setCell ⟨g, x * 6, none⟩ (.bool rr.lo.neg)).setCell ⟨g, x * 6 + 1, none⟩ (.slice rr.lo.A rr.lo.n rr.lo.c)).setCell ⟨g, x * 6 + 2, none⟩ (I rr.lo.den)).setCell ⟨g, x * 6 + 3, none⟩ (.bool rr.hi.neg)).setCell ⟨g, x * 6 + 4, none⟩ (.slice rr.hi.A rr.hi.n rr.hi.c)).setCell ⟨g, x * 6 + 5, none⟩ (I rr.hi.den) := ⟨_, rfl⟩
        have hst : st6 w2 g x rr = wy := by rw [hwy]
        rw [hst] at hp0 hxx0
        rw [← hwy]
        clear hst
        have HP := Lib.hid hp0; have HXX := Lib.hid hxx0
        clear hp0 hxx0 hwy d0 d1 d2 d3 d4 d5 f0 f1 f2 f3 f4 f5 t0 t1 t2 t3 t4 t4' t5 t6 t7 t8 t9 t10
        obtain ⟨d0, d1, d2, d3, d4, d5⟩ := HP.out.lv.cells hxn
        have cy := HP.out.lv.el x hxn
        rw [ciR_at] at d0 d1 d2 d3 d4 d5
        rw [ciR_at, putI_same] at cy
        have HLO2 : Hid (∀ w', Ext wy w' → Calls Tryz.prog 117 #[rr.v] w' fun e w'' => e = .returned (.bool (lngI yv)) ∧ Ext w' w'') := fun w' e => isLong_any (cy.ext e)
        clear cy
        cases hlg : lngI yv with
        | true =>
         obtain rfl : v = 4 := HBAD.out hlg
         rw [hlg] at HLO2
         clear HGD HBAD
         go_wp2_with (go_at_call 117; (with_reducible refine (HLO2.out _ (Ext.refl _)).mono ?_); rintro e1 w3 ⟨rfl, h3⟩; have HX3 := Lib.hid h3; clear h3)
         go_ret2
         exact evE_hit HV.out (by decide) rfl (HE.out.trans (HXX.out.trans HX3.out))
        | false =>
         have HG2 := Lib.hid (HGD.out hlg)
         rw [hlg] at HLO2
         clear HGD HBAD
         go_wp2_with (go_at_call 117; (with_reducible refine (HLO2.out _ (Ext.refl _)).mono ?_); rintro e1 w3 ⟨rfl, h3⟩; have HX3 := Lib.hid h3; clear h3)
         (try rw [← hbo])
         go_roundw
         case rel => exact ⟨k + 1, _, by omega, by go_num, (HP.out.to HX3.out).congr HUP.out, HXX.out.trans HX3.out, HG2.out⟩
         case measure => simp [intOf]; omega
      ·obtain rfl : k = lo := by omega
       have HG1 : Hid (v = 0) := by
        show v = 0
        rw [HVE.out, if_neg]
        rw [tkH_all OK.out (fun z hz => HSH.out z (by rw [← HLD.out]; exact hz)) (fun z hz => H.out.2.2 z (by rw [← HLO.out]; exact hz))]; decide
       have HV1 : Hid (∀ i, i < D.nb → vkI D S k i = tkI D S i) := fun i _ => by rw [← HLO.out, vkI_end]
       go_wp2_with fail
       go_ret2
       exact .inr ⟨by rw [HV.out, HG1.out], g, R2, rfl, H.out.1.congr HV1.out⟩
end
section
open Go Go.RowKit
def SaB (D : Dia) (n : Nat) (w : World) (e : Ending) (w' : World) : Prop :=
 ∃ g R, e = .returned (.tuple #[.slice (some ⟨g, 0, none⟩) n n, .nilIface]) ∧ LvM w' g n R (s0S D) ∧ (w.heap.size ≤ g ∧ ∀ i, i < n → ∀ a, (R i).A = some a → w.heap.size ≤ a.block) ∧ Ext w w'
set_option maxRecDepth 100000 in
set_option maxHeartbeats 1000000 in
theorem Start_good {w : World} {D : Dia} {p : Pl} (d : Dm w D p) (hT : Tabs w) (h : chk D = 0) : Calls Tryz.prog 32 #[dgv D p] w (SaB D (delL D).length w) := by
 have ok := chk_ok h
 have hb : Ext w w := Ext.refl _
 obtain ⟨lo, hlo⟩ : ∃ lo, (ordL D).length = lo := ⟨_, rfl⟩
 obtain ⟨ld, hld⟩ : ∃ ld, (delL D).length = ld := ⟨_, rfl⟩
 have HP2 : Hid (∀ w', Ext w w' → Calls Tryz.prog 84 #[dgv D p] w' (fun e w'' => ∃ Ao co Ad cd, e = .returned (.tuple #[evv D p Ao lo co Ad ld cd, .nilIface]) ∧ Rl w'' Ao co (ordL D) ∧ Rl w'' Ad cd (delL D) ∧ Ext w' w'')) := fun w' e => (prepare_ok (d.ext e) (hT.ext e) h).mono fun e w'' h => by
  obtain ⟨Ao, co, Ad, cd, he, h1, h2, h3⟩ := h
  rw [hlo, hld] at he
  exact ⟨Ao, co, Ad, cd, he, h1, h2, h3⟩
 have HSA : Hid (∀ w' Ao co Ad cd, Ext w w' → Rl w' Ad cd (delL D) → Calls Tryz.prog 89 #[evv D p Ao lo co Ad ld cd] w' (LvR ld (s0S D) w')) := fun w' Ao co Ad cd e r => start_any (d.ext e) ok hld r (hT.ext e)
 rw [hld]
 clear d hT h ok hlo hld
 go_enter Tryz.func32, Tryz.ntmps32
 go_wp2_with (first
  | (go_at_call 84; (with_reducible refine (HP2.out _ (hb.trans (Ext.alloc _ _))).mono ?_); rintro e1 w1 ⟨Ao, co, Ad, cd, rfl, ro, rd, h1⟩; have HRD := Lib.hid rd; have HX1 := Lib.hid ((Ext.alloc _ _).trans h1); clear ro rd h1)
  | (go_at_call 89; (with_reducible refine (HSA.out _ _ _ _ _ (HX1.out.trans (Ext.alloc _ _)) (HRD.out.ext (Ext.alloc _ _))).mono ?_); rintro e2 w2 ⟨g, R2, rfl, l1, n1, n2, h2⟩; have HQ := Lib.hid (And.intro l1 (And.intro n1 (And.intro n2 h2))); clear l1 n1 n2 h2))
 have hs := HX1.out.size
 exact bodyPost_ret (v := .tuple #[.slice (some ⟨g, 0, none⟩) ld ld, .nilIface]) (by simp [results, Tryz.results32, go_sem]) rfl ⟨g, R2, rfl, HQ.out.1, ⟨by have := HQ.out.2.1; simp only [World.size_alloc] at this; omega, fun i hi a ha => by have := HQ.out.2.2.1 i hi a ha; simp only [World.size_alloc] at this; omega⟩, (HX1.out.trans (Ext.alloc _ _)).trans HQ.out.2.2.2⟩
end
section
open Go Go.RowKit
def PrI (D : Dia) (p : Pl) (w : World) (e : Ending) (w' : World) : Prop :=
 ∃ Ao co Ad cd g R, e = .returned (.tuple #[anv D p Ao (ordL D).length co Ad (delL D).length cd (some ⟨g, 0, none⟩) (delL D).length (delL D).length, .nilIface]) ∧ Rl w' Ao co (ordL D) ∧ Rl w' Ad cd (delL D) ∧ LvM w' g (delL D).length R (s0S D) ∧ Ext w w'
theorem fr_set6 (w : World) (g : Nat) (a b c d e f : Value) : w.grownBy ((((((w.setCell ⟨g, 0, none⟩ a).setCell ⟨g, 1, none⟩ b).setCell ⟨g, 2, none⟩ c).setCell ⟨g, 3, none⟩ d).setCell ⟨g, 4, none⟩ e).setCell ⟨g, 5, none⟩ f) (some g) :=
 fr_trans (fr_set5 _ _ _ _ _ _ _) (fr_set _ _ _ _)
abbrev prW (w : World) (D : Dia) (p : Pl) (t1 t2 : TypeId) : World := (w.alloc (.cells #[.slice p.AI D.ni p.cI, .slice p.AB D.nb p.cB, .slice p.AO D.no p.cO] t1)).alloc (.cells #[.slice none 0 0, .slice none 0 0, .slice none 0 0, .slice none 0 0, .slice none 0 0, .slice none 0 0] t2)
theorem prW_box (w : World) (D : Dia) (p : Pl) (t1 t2 : TypeId) : B6 (prW w D p t1 t2) (w.heap.size + 1) (.slice none 0 0) (.slice none 0 0) (.slice none 0 0) (.slice none 0 0) (.slice none 0 0) (.slice none 0 0) := by
 have := B6.new (w.alloc (.cells #[.slice p.AI D.ni p.cI, .slice p.AB D.nb p.cB, .slice p.AO D.no p.cO] t1)) (.slice none 0 0) (.slice none 0 0) (.slice none 0 0) (.slice none 0 0) (.slice none 0 0) (.slice none 0 0) t2
 rwa [show (w.alloc (.cells #[.slice p.AI D.ni p.cI, .slice p.AB D.nb p.cB, .slice p.AO D.no p.cO] t1)).heap.size = w.heap.size + 1 by simp] at this
set_option maxRecDepth 100000 in
set_option maxHeartbeats 2000000 in
theorem rprepare_ok {w : World} {D : Dia} {p : Pl} (d : Dm w D p) (hT : Tabs w) (h : chk D = 0) : Calls Tryz.prog 54 #[dgv D p] w (PrI D p w) := by
 obtain ⟨W1, hW1⟩ : ∃ W1, W1 = prW w D p 26 102 := ⟨_, rfl⟩
 unfold prW at hW1
 have hE : Ext w W1 := by rw [hW1]; exact (Ext.alloc _ _).trans (Ext.alloc _ _)
 have hz1 : W1.heap.size = w.heap.size + 1 + 1 := by rw [hW1]; simp
 have hbd : Bd W1 w.heap.size D p := by rw [hW1]; exact (Bd.new _ _ _ _).ext (Ext.alloc _ _)
 have hb6 : B6 W1 (w.heap.size + 1) (.slice none 0 0) (.slice none 0 0) (.slice none 0 0) (.slice none 0 0) (.slice none 0 0) (.slice none 0 0) := by rw [hW1]; exact prW_box w D p _ _
 have HB6 := Lib.hid hb6
 have HBX : Hid (∀ w', Ext W1 w' → w'.cell? ⟨w.heap.size, 0, none⟩ = some (.slice p.AI D.ni p.cI) ∧ w'.cell? ⟨w.heap.size, 1, none⟩ = some (.slice p.AB D.nb p.cB) ∧ w'.cell? ⟨w.heap.size, 2, none⟩ = some (.slice p.AO D.no p.cO)) := fun w' e => by
  have a := hbd.ext e; exact ⟨a.c0, a.c1, a.c2⟩
 have HO : Hid (∀ w', Ext W1 w' → Calls Tryz.prog 114 #[dgv D p] w' (LsE (ordL D) w')) := fun w' e => Order_ok (d.ext (hE.trans e)) (hT.ext (hE.trans e)) h
 have HDl : Hid (∀ w', Ext W1 w' → Calls Tryz.prog 115 #[dgv D p] w' (LsE (delL D) w')) := fun w' e => Delays_ok (d.ext (hE.trans e)) (hT.ext (hE.trans e)) h
 have HSt : Hid (∀ w', Ext W1 w' → Calls Tryz.prog 32 #[dgv D p] w' (SaB D (delL D).length w')) := fun w' e => Start_good (d.ext (hE.trans e)) (hT.ext (hE.trans e)) h
 have HE := Lib.hid hE; have HZ := Lib.hid hz1
 obtain ⟨c0, c1, c2⟩ := HBX.out _ (Ext.refl _)
 clear d hT h hbd hE hz1 hb6
 go_enter Tryz.func54, Tryz.ntmps54
 go_upto_region 1 with fail
 rw [← hW1]; clear hW1
 go_wp2_with (first
  | (go_at_call 114; (with_reducible refine (HO.out _ (Ext.refl _)).mono ?_); rintro e1 w1 ⟨Ao, co, rfl, o1, h1⟩; have HX1 := Lib.hid h1; have HO1 := Lib.hid o1; obtain ⟨d0, d1, d2⟩ := HBX.out _ h1; clear h1 o1)
  | (go_at_call 115; (with_reducible refine (HDl.out _ HX1.out).mono ?_); rintro e1 w2 ⟨Ad, cd, rfl, o2, h2⟩; have HX2 := Lib.hid (HX1.out.trans h2); have HO2 := Lib.hid o2; have HO12 := Lib.hid (HO1.out.ext h2); obtain ⟨d0, d1, d2⟩ := HBX.out _ HX2.out; clear h2 o2)
  | (go_at_call 32; (with_reducible refine (HSt.out _ HX2.out).mono ?_); rintro e1 w3 ⟨gs, Rs, rfl, l3, n3, h3⟩; have HX3 := Lib.hid (HX2.out.trans h3); have HL3 := Lib.hid l3; have HN3 := Lib.hid n3; have HO13 := Lib.hid (HO12.out.ext h3); have HO23 := Lib.hid (HO2.out.ext h3); obtain ⟨d0, d1, d2⟩ := HBX.out _ HX3.out; obtain ⟨⟨r0, r1, r2, r3, r4, r5⟩, rf⟩ := HB6.out.ext HX3.out; have f0 := rf 0; have f1 := rf 1; have f2 := rf 2; have f3 := rf 3; have f4 := rf 4; have f5 := rf 5; clear rf h3 l3 n3))
 have hs1 := HX1.out.size; have hs2 := HX2.out.size; have hz := HZ.out
 refine bodyPost_ret (v := .tuple #[anv D p Ao (ordL D).length co Ad (delL D).length cd (some ⟨gs, 0, none⟩) (delL D).length (delL D).length, .nilIface]) (by simp [results, Tryz.results54, go_sem, r0, r1, r2, r3, r4, r5]) rfl ⟨Ao, co, Ad, cd, gs, Rs, rfl, ?_, ?_, ?_, ?_⟩
 ·exact HO13.out.rl.gr (fr_set6 _ _ _ _ _ _ _ _) (fun b o q => by have := HO13.out.ne b o q; omega)
 ·exact HO23.out.rl.gr (fr_set6 _ _ _ _ _ _ _ _) (fun b o q => by have := HO23.out.ne b o q; omega)
 ·exact HL3.out.off (fr_set6 _ _ _ _ _ _ _ _) (by have := HN3.out.1; omega) (fun i hi a ha => by have := HN3.out.2 i hi a ha; omega)
 ·exact ext_fr (HE.out.trans HX3.out) (fr_set6 _ _ _ _ _ _ _ _) (by omega)
set_option maxRecDepth 100000 in
set_option maxHeartbeats 1000000 in
theorem Eval_ok {w : World} {D : Dia} {p : Pl} {Ai : Option Addr} {n ci : Nat} {R : Nat → RI} {S : Nat → IV} {b : Nat → Bool} (d : Dm w D p) (hT : Tabs w) (h : chk D = 0) (rs : RnI w Ai n R) (el : ∀ k, k < n → ElI w (R k) (S k) (b k)) :
  Calls Tryz.prog 14 #[dgv D p, .slice Ai n ci] w (EvP D n b S w) := by
 have ok := chk_ok h
 obtain ⟨lo, hlo⟩ : ∃ lo, (ordL D).length = lo := ⟨_, rfl⟩
 obtain ⟨ld, hld⟩ : ∃ ld, (delL D).length = ld := ⟨_, rfl⟩
 have HP : Hid (∀ w', Ext w w' → Calls Tryz.prog 54 #[dgv D p] w' (fun e w'' => ∃ Ao co Ad cd As, e = .returned (.tuple #[anv D p Ao lo co Ad ld cd As ld ld, .nilIface]) ∧ Rl w'' Ao co (ordL D) ∧ Rl w'' Ad cd (delL D) ∧ Ext w' w'')) := fun w' e => (rprepare_ok (d.ext e) (hT.ext e) h).mono fun e w'' hh => by
  obtain ⟨Ao, co, Ad, cd, g, R, he, h1, h2, h3, h4⟩ := hh
  rw [hlo, hld] at he
  exact ⟨Ao, co, Ad, cd, _, he, h1, h2, h4⟩
 have HV : Hid (∀ w' Ao co Ad cd As, Ext w w' → Rl w' Ao co (ordL D) → Rl w' Ad cd (delL D) → Calls Tryz.prog 55 #[anv D p Ao lo co Ad ld cd As ld ld, .slice Ai n ci] w' (EvP D n b S w')) := fun w' Ao co Ad cd As e ro rd => evaluate_any (d.ext e) ok (hT.ext e) hld hlo rd ro (rs.ext e) fun k hk => (el k hk).ext e
 clear d hT h ok hlo hld rs el
 by_cases hz : evE D n b S = 0
 ·have HV2 : Hid (∀ w' Ao co Ad cd As, Ext w w' → Rl w' Ao co (ordL D) → Rl w' Ad cd (delL D) → Calls Tryz.prog 55 #[anv D p Ao lo co Ad ld cd As ld ld, .slice Ai n ci] w' (fun e w'' => ∃ g R, e = .returned (.tuple #[.slice (some ⟨g, 0, none⟩) D.nb D.nb, .nilIface]) ∧ BuI w' w'' g D.nb R (tkI D S))) := fun w' Ao co Ad cd As e ro rd => (HV.out w' Ao co Ad cd As e ro rd).mono fun e w'' hh => by
   rcases hh with ⟨h1, _⟩ | ⟨_, h2⟩
   ·exact absurd hz h1
   ·exact h2
  have HZ := Lib.hid hz
  clear HV hz
  go_enter Tryz.func14, Tryz.ntmps14
  go_wp2_with (first
   | (go_at_call 54; (with_reducible refine (HP.out _ (Ext.alloc _ _)).mono ?_); rintro e1 w1 ⟨Ao, co, Ad, cd, As, rfl, ro, rd, h1⟩; have HRO := Lib.hid ro; have HRD := Lib.hid rd; have HX1 := Lib.hid ((Ext.alloc _ _).trans h1); clear ro rd h1)
   | (go_at_call 55; (with_reducible refine (HV2.out _ _ _ _ _ _ (HX1.out.trans (Ext.alloc _ _)) (HRO.out.ext (Ext.alloc _ _)) (HRD.out.ext (Ext.alloc _ _))).mono ?_); rintro e2 w2 ⟨g, R2, rfl, hr⟩; have HR := Lib.hid hr; clear hr))
  go_ret2
  have h3 := HR.out
  have x := HX1.out.trans (Ext.alloc w1 (.cells #[.slice p.AI D.ni p.cI, .slice p.AB D.nb p.cB, .slice p.AO D.no p.cO, .slice Ao lo co, .slice Ad ld cd, .slice As ld ld] 102))
  exact .inr ⟨HZ.out, g, R2, rfl, x.trans h3.ext, Nat.le_trans x.size h3.old, h3.lv, fun i hi => (h3.nw i hi).mono x.size⟩
 ·have HV2 : Hid (∀ w' Ao co Ad cd As, Ext w w' → Rl w' Ao co (ordL D) → Rl w' Ad cd (delL D) → Calls Tryz.prog 55 #[anv D p Ao lo co Ad ld cd As ld ld, .slice Ai n ci] w' (fun e w'' => e = .returned (.tuple #[.slice none 0 0, .iface 48 (I (evE D n b S))]) ∧ Ext w' w'')) := fun w' Ao co Ad cd As e ro rd => (HV.out w' Ao co Ad cd As e ro rd).mono fun e w'' hh => by
   rcases hh with ⟨_, h2, h3⟩ | ⟨h1, _⟩
   ·exact ⟨h2, h3⟩
   ·exact absurd h1 hz
  have HZ := Lib.hid hz
  clear HV hz
  go_enter Tryz.func14, Tryz.ntmps14
  go_wp2_with (first
   | (go_at_call 54; (with_reducible refine (HP.out _ (Ext.alloc _ _)).mono ?_); rintro e1 w1 ⟨Ao, co, Ad, cd, As, rfl, ro, rd, h1⟩; have HRO := Lib.hid ro; have HRD := Lib.hid rd; have HX1 := Lib.hid ((Ext.alloc _ _).trans h1); clear ro rd h1)
   | (go_at_call 55; (with_reducible refine (HV2.out _ _ _ _ _ _ (HX1.out.trans (Ext.alloc _ _)) (HRO.out.ext (Ext.alloc _ _)) (HRD.out.ext (Ext.alloc _ _))).mono ?_); rintro e2 w2 ⟨rfl, hr⟩; have HR := Lib.hid ((HX1.out.trans (Ext.alloc _ _)).trans hr); clear hr))
  go_ret2
  exact .inl ⟨HZ.out, rfl, HR.out⟩
set_option maxRecDepth 100000 in
set_option maxHeartbeats 1000000 in
theorem rsource_any {w : World} {D : Dia} {p : Pl} {Ao Ad As : Option Addr} {lo ld co cd ns' cs : Nat} (d : Dm w D p) (ok : OkD D) (rd : Rl w Ad cd (delL D)) (hld : (delL D).length = ld) {j : Nat} (hj : j < ld) :
    Calls Tryz.prog 56 #[anv D p Ao lo co Ad ld cd As ns' cs, I j] w fun e w' => e = .returned (I (sr D ((delL D).getD j 0) 0)) ∧ Ext w w' := by
  have hj' : j < (delL D).length := by omega
  obtain ⟨hx, hd⟩ := del_at hj'
  obtain ⟨W1, hW1⟩ : ∃ W1, W1 = w.alloc (.cells #[.slice p.AI D.ni p.cI, .slice p.AB D.nb p.cB, .slice p.AO D.no p.cO, .slice Ao lo co, .slice Ad ld cd, .slice As ns' cs] 102) := ⟨_, rfl⟩
  have hE : Ext w W1 := by rw [hW1]; exact Ext.alloc _ _
  obtain ⟨bd, od, rfl, hbd, hcd⟩ := rd.1 (by omega)
  obtain ⟨b, o, hb, hbl, hc⟩ := d.blocks (by omega)
  have xd := (hE.old.1 _ _ hbd).trans (hcd j hj')
  obtain ⟨x, hxd⟩ : ∃ x, (delL D).getD j 0 = x := ⟨_, rfl⟩
  simp only [hxd] at xd hx hd ⊢
  have hk : (D.B x).k = 2 := by unfold isD at hd; simpa using hd
  have har := ok.ar x hx
  rw [hk] at har
  have hn1 : (D.B x).n = 1 := by have : arity 2 = 1 := by decide
                                 omega
  have hns : 0 < ns D x := by unfold ns; rw [if_neg (by omega)]; omega
  have hs := ok.src hx hns
  obtain ⟨ba, oa, ha, hba, hca⟩ := (d.args x hx).1 (by omega)
  have xa := (hE.old.1 _ _ hba).trans (hca 0 (by omega))
  rw [hs.1, Nat.add_zero] at xa
  have x1 := (hE.old.1 _ _ hbl).trans (hc x hx).2.1
  rw [ha, hn1] at x1
  have hb6 : B6A W1 w.heap.size D p Ao lo co (some ⟨bd, od, none⟩) ld cd As ns' cs := by show B6A _ _ _ _ _ _ _ _ _ _ _ _ _; rw [hW1]; exact B6.new _ _ _ _ _ _ _ _
  obtain ⟨⟨c0, c1, c2, c3, c4, c5⟩, _⟩ := hb6
  rw [hb] at c1
  have hj1 : (j : Int) < (ld : Int) := by omega
  have hx1 : (x : Int) < (D.nb : Int) := by omega
  have HE := Lib.hid hE
  obtain ⟨y, hy⟩ : ∃ y, sr D x 0 = y := ⟨_, rfl⟩
  rw [hy] at xa ⊢
  clear d ok rd hcd hc hca hE hs hy hd hk har hns hb ha
  go_enter Tryz.func56, Tryz.ntmps56
  go_upto_region 1 with fail
  rw [← hW1]; clear hW1
  go_quiet (fail)
  go_wp2_with fail
  go_ret
  exact ⟨rfl, HE.out.trans (Ext.drewN _ _)⟩
end
end Go.Proofs.YtgnngldlgcdnfaaGreatDoor
