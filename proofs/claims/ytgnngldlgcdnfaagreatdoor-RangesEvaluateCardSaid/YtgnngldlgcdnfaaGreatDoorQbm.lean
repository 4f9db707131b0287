import Derived.Test.YtgnngldlgcdnfaaGreatDoorQbl
import Derived.Deep.RegionHeld3
namespace Go.Proofs.YtgnngldlgcdnfaaGreatDoor
open Go Go.RowKit
attribute [local go_sem ↓] Go.wp_at_zero Go.wp_at_succ
theorem prt_short {q : Prt} {x : Int} (h1 : -9223372036854775808 ≤ x) (h2 : x ≤ 9223372036854775807) (h3 : 0 ≤ q.fr) (h4 : q.fr ≤ 30) : lng (prtV q x) = false := by
 have a := nmS_len' (n := x) (e := -q.fr) h1 h2 (by omega)
 have b := nmS_den (n := x) (e := -q.fr) (by omega)
 have c := bitsN_len (nmS x (-q.fr)).m
 rw [prtV_eq]
 unfold lng
 simp
 omega
theorem prtI_short {q : Prt} (h1 : -9223372036854775808 ≤ q.lo) (h2 : q.lo ≤ 9223372036854775807) (h3 : -9223372036854775808 ≤ q.hi) (h4 : q.hi ≤ 9223372036854775807) (h5 : 0 ≤ q.fr) (h6 : q.fr ≤ 30) : lngI (prtI q) = false := by
 unfold lngI prtI
 rw [prt_short h1 h2 h5 h6, prt_short h3 h4 h5 h6]; rfl
set_option maxRecDepth 100000 in
set_option maxHeartbeats 8000000 in
theorem rEval_any {w : World} {D : Dia} {p : Pl} {Ai : Option Addr} {n ci : Nat} {R : Nat → RI} {S : Nat → IV} {b : Nat → Bool} (d : Dm w D p) (ok : OkD D) (hn : n ≤ 1000000) (rs : RnI w Ai n R) (el : ∀ k, k < n → ElR w (R k) (S k) (b k)) :
  Calls Tryz.prog 18 #[dgv D p, .slice Ai n ci] w (RvE D n b S w) := by
 have hdl := del_le D
 have hol := ord_le D
 have hnb := ok.nb
 have hmk := fun w => run_makeI w D.nb (by omega)
 obtain ⟨W1, hW1⟩ : ∃ W1, W1 = w.alloc (.cells #[.slice p.AI D.ni p.cI, .slice p.AB D.nb p.cB, .slice p.AO D.no p.cO] 26) := ⟨_, rfl⟩
 have hE : Ext w W1 := by rw [hW1]; exact Ext.alloc _ _
 have hbd : Bd W1 w.heap.size D p := by rw [hW1]; exact Bd.new _ _ _ _
 have HDL : Hid (∀ w', Ext W1 w' → Calls Tryz.prog 60 #[dgv D p] w' (LsR (delL D) w')) := fun w' e => rdelays_any (d.ext (hE.trans e)) (by omega)
 have HOR : Hid (∀ w', Ext W1 w' → Calls Tryz.prog 59 #[dgv D p] w' (LsR (ordL D) w')) := fun w' e => rorder_any (d.ext (hE.trans e)) ok.toWF
 have HB := Lib.hid hbd; have HD := Lib.hid (d.ext hE); have HE := Lib.hid hE; have OK := Lib.hid ok
 have HRS := Lib.hid (rs.ext hE)
 have HL : Hid (∀ k, k < n → ElR W1 (R k) (S k) (b k)) := fun k hk => (el k hk).ext hE
 obtain ⟨c0, c1, c2⟩ := hbd
 obtain ⟨ld, hld⟩ : ∃ ld, (delL D).length = ld := ⟨_, rfl⟩
 obtain ⟨lo, hlo⟩ : ∃ lo, (ordL D).length = lo := ⟨_, rfl⟩
 have HLD := Lib.hid hld; have HLO := Lib.hid hlo
 have hz1 : W1.heap.size = w.heap.size + 1 := by rw [hW1]; simp
 have HZ := Lib.hid hz1
 rw [hld] at hdl
 rw [hlo] at hol
 obtain ⟨v, hv⟩ : ∃ v, evE D n b S = v := ⟨_, rfl⟩
 have HV := Lib.hid hv
 clear d ok rs el hE hz1 hv
 by_cases hnl : n ≠ ld
 ·obtain rfl : v = 11 := by rw [← HV.out]; unfold evE; rw [if_pos (by rw [HLD.out]; exact hnl)]
  have g0 : ((n : Int) != (ld : Int)) = true := by simp; omega
  clear hmk
  go_enter Tryz.func18, Tryz.ntmps18
  go_upto_region 1 with fail
  rw [← hW1]; clear hW1
  go_wp2_with (go_at_call 60; (with_reducible refine (HDL.out _ (Ext.refl _)).mono ?_); rintro e1 w1 hq; obtain ⟨Ad, cd, he, o1, h1⟩ := hq; rw [hld] at he; subst he; have HX1 := Lib.hid h1; clear h1 o1)
  go_ret2
  exact rvE_hit HV.out (by decide) rfl (HE.out.trans HX1.out)
 obtain rfl : n = ld := by omega
 clear hnl
 have g0 : ((n : Int) != (n : Int)) = false := by simp
 go_enter Tryz.func18, Tryz.ntmps18
 go_upto_region 1 with fail
 rw [← hW1]; clear hW1
 go_upto_region 4 with (go_at_call 60; (with_reducible refine (HDL.out _ (Ext.refl _)).mono ?_); rintro e1 w1 hq; obtain ⟨Ad, cd, he, o1, h1⟩ := hq; rw [hld] at he; subst he; have HX1 := Lib.hid h1; have HO1 := Lib.hid o1.rl; clear h1 o1)
 clear hld c0 c1 c2 hlo
 go_wp2_with fail
 go_loopw [27] (fun s wr => ∃ j : Nat, j ≤ n ∧ s = I j ∧ Ext w1 wr ∧ Hid (∀ k, k < j → b k = true)) (fun s _ => n - (intOf s).toNat)
 case atStart => exact ⟨0, Nat.zero_le _, rfl, Ext.refl _, fun k hk => absurd hk (by omega)⟩
 case round =>
  obtain ⟨j, hj, rfl, hx, HG⟩ := hrel
  by_cases hlt : j < n
  ·obtain ⟨bs, os, rfl, hbs, hcs⟩ := HRS.out.ext (HX1.out.trans hx) (by omega)
   obtain ⟨x0, x1, x2, x3, x4, x5⟩ := hcs j hlt
   have HVC := Lib.hid ((HL.out j hlt).rv)
   have hlt' : (j : Int) < (n : Int) := by omega
   clear hcs hmk
   cases hb : b j with
   | true =>
    have HG2 : Hid (∀ k, k < j + 1 → b k = true) := fun k hk => by
     by_cases h : k = j
     ·subst h; exact hb
     ·exact HG.out k (by omega)
    rw [hb] at HVC
    clear hb
    generalize R j = rj at *
    go_wp2_with (go_at_call 61; (with_reducible refine (HVC.out _ (HX1.out.trans (hx.trans (Ext.alloc _ _)))).mono ?_); rintro e1 w2 ⟨rfl, h1⟩; replace hx := (hx.trans (Ext.alloc _ _)).trans h1; clear h1)
    go_roundw
    case rel => exact ⟨j + 1, by omega, by go_num, hx, HG2⟩
    case measure => simp [intOf]; omega
   | false =>
    obtain rfl : v = 2 := by
     rw [← HV.out]; unfold evE
     rw [if_neg (by have := HLD.out; omega), if_pos (allN_false.2 ⟨j, hlt, hb⟩)]
    rw [hb] at HVC
    clear hb
    generalize R j = rj at *
    go_wp2_with (go_at_call 61; (with_reducible refine (HVC.out _ (HX1.out.trans (hx.trans (Ext.alloc _ _)))).mono ?_); rintro e1 w2 ⟨rfl, h1⟩; replace hx := (hx.trans (Ext.alloc _ _)).trans h1; clear h1)
    go_ret2
    exact rvE_hit HV.out (by decide) rfl (HE.out.trans (HX1.out.trans hx))
  ·obtain rfl : j = n := by omega
   have HBB : Hid (∀ k, k < j → b k = true) := HG.out
   have HCI : Hid (∀ k, k < j → CnI W1 (R k) (S k)) := fun k hk => (HL.out k hk).cn (HBB.out k hk)
   have HVE : Hid (v = if tkH D S = false then 4 else 0) := by
    show v = _
    rw [← HV.out]; unfold evE
    rw [if_neg (by have := HLD.out; omega), if_neg (by rw [allN_iff.2 HBB.out]; decide)]
   obtain ⟨c0, c1, c2⟩ := HB.out.ext (HX1.out.trans hx)
   obtain ⟨g, hg⟩ : ∃ g, wr.heap.size = g := ⟨_, rfl⟩
   have HM0 : Hid (RuI W1 (wr.alloc (.cells (madeCells #[.bool false, .slice none 0 0, I 0, .bool false, .slice none 0 0, I 0] (D.nb * 6)) 58)) g D.nb (fun _ => RI.z) (v1I D S 0) ∧ Ext w1 (wr.alloc (.cells (madeCells #[.bool false, .slice none 0 0, I 0, .bool false, .slice none 0 0, I 0] (D.nb * 6)) 58))) :=
    ⟨(RuI.new _ (HX1.out.trans hx) hg.symm).congr fun i _ => (v1I_zero D S i).symm, hx.trans (Ext.alloc _ _)⟩
   have HGW : Hid (w1.heap.size ≤ g) := by show _ ≤ _; rw [← hg]; exact hx.size
   clear hlt hj HL HG
   go_upto_region 11 with fail
   obtain ⟨wz, hwz⟩ : ∃ wz, wz = wr.alloc (.cells (madeCells #[.bool false, .slice none 0 0, I 0, .bool false, .slice none 0 0, I 0] (D.nb * 6)) 58) := ⟨_, rfl⟩
   rw [← hwz] at HM0
   (try rw [hg])
   rw [← hwz]
   clear hwz hmk c0 c1 c2 hx hg
   go_wp2_with fail
   go_loopw [41] (fun s wr => ∃ (q : Nat) (R' : Nat → RI), q ≤ j ∧ s = I q ∧ Hid (RuI W1 wr g D.nb R' (v1I D S q) ∧ Ext w1 wr ∧ ∀ k, k < q → lngI (S k) = false)) (fun s _ => j - (intOf s).toNat)
   case atStart => exact ⟨0, _, Nat.zero_le _, rfl, HM0.out.1, HM0.out.2, fun k hk => absurd hk (by omega)⟩
   case round =>
    clear HM0
    obtain ⟨q, R', hq, rfl, H⟩ := hrel
    by_cases hlt : q < j
    ·have hq' : q < (delL D).length := by rw [HLD.out]; exact hlt
     obtain ⟨bd, od, hbd, hbld, hcd⟩ := (HO1.out.ext H.out.2.1).1 (by omega)
     have xd := hcd q hq'
     obtain ⟨x, hxd⟩ : ∃ x, (delL D).getD q 0 = x := ⟨_, rfl⟩
     have hx := del_at hq'
     simp only [hxd] at xd hx
     obtain ⟨bs, os, hbs, hbls, hcs⟩ := HRS.out.ext H.out.1.ext (by omega)
     obtain ⟨s0, s1, s2, s3, s4, s5⟩ := hcs q hlt
     have cn := (HCI.out q hlt)
     have HUP : Hid (∀ i, i < D.nb → putI (v1I D S q) x (S q) i = v1I D S (q + 1) i) := fun i hi => by rw [← hxd]; exact v1I_put S hq' hi
     have hlt' : (q : Int) < (j : Int) := by omega
     have hxl : (x : Int) < (D.nb : Int) := by omega
     have hxn := hx.1
     have HRS2 : Hid (∀ w', Ext w1 w' → (w'.cell? ⟨bs, os + q * 6, none⟩ = some (.bool (R q).lo.neg) ∧ w'.cell? ⟨bs, os + q * 6 + 1, none⟩ = some (.slice (R q).lo.A (R q).lo.n (R q).lo.c) ∧ w'.cell? ⟨bs, os + q * 6 + 2, none⟩ = some (I (R q).lo.den)) ∧ w'.cell? ⟨bs, os + q * 6 + 3, none⟩ = some (.bool (R q).hi.neg) ∧ w'.cell? ⟨bs, os + q * 6 + 4, none⟩ = some (.slice (R q).hi.A (R q).hi.n (R q).hi.c) ∧ w'.cell? ⟨bs, os + q * 6 + 5, none⟩ = some (I (R q).hi.den)) := fun w' e => by
      obtain ⟨bs', os', hbs', _, hcs'⟩ := HRS.out.ext (HX1.out.trans e) (by omega)
      rw [hbs] at hbs'; injection hbs' with hbs'; injection hbs' with e1 e2; subst e1; subst e2
      obtain ⟨t0, t1, t2, t3, t4, t5⟩ := hcs' q hlt
      exact ⟨⟨t0, t1, t2⟩, t3, t4, t5⟩
     have HP := Lib.hid (H.out.1.put (Ext.refl _) x (R q) (S q) (cn.ext H.out.1.ext) (cn.farNew H.out.1.old))
     have HXX : Hid (Ext w1 (st6 wr g x (R q))) := st6_ext g x (R q) H.out.2.1 HGW.out
     have fz := H.out.1.lv.frozen; have f0 := fz (x * 6); have f1 := fz (x * 6 + 1); have f2 := fz (x * 6 + 2); have f3 := fz (x * 6 + 3); have f4 := fz (x * 6 + 4); have f5 := fz (x * 6 + 5)
     obtain ⟨d0, d1, d2, d3, d4, d5⟩ := H.out.1.lv.cells hxn
     have HBS := Lib.hid hbs; have HBD := Lib.hid hbd
     have HLO2 : Hid (∀ w', Ext w1 w' → Calls Tryz.prog 62 #[(R q).v] w' fun e w'' => e = .returned (.bool (lngI (S q))) ∧ Ext w' w'') := fun w' e => rlongI_any (cn.ext (HX1.out.trans e))
     have hbd2 : Hid (lngI (S q) = true → v = 4) := fun h => by rw [HVE.out, if_pos (tkH_del hq' h)]
     clear hcd hcs hx hq' cn fz
     generalize R q = rj at *
     rw [hbs, hbd]
     clear hbs hbd
     go_upto_region 15 with fail
     obtain ⟨wy, hwy⟩ : ∃ wy, wy = (((((wr.setCell ⟨g, x * 6, none⟩ (.bool rj.lo.neg)).setCell ⟨g, x * 6 + 1, none⟩ (.slice rj.lo.A rj.lo.n rj.lo.c)).setCell ⟨g, x * 6 + 2, none⟩ (I rj.lo.den)).setCell ⟨g, x * 6 + 3, none⟩ (.bool rj.hi.neg)).setCell ⟨g, x * 6 + 4, none⟩ (.slice rj.hi.A rj.hi.n rj.hi.c)).setCell ⟨g, x * 6 + 5, none⟩ (I rj.hi.den) := ⟨_, rfl⟩
     have hst : st6 wr g x rj = wy := by rw [hwy]
     rw [hst] at HP HXX
     rw [← hwy]
     clear hst hwy d0 d1 d2 d3 d4 d5 f0 f1 f2 f3 f4 f5 s0 s1 s2 s3 s4 s5 xd
     obtain ⟨⟨s0, s1, s2⟩, s3, s4, s5⟩ := HRS2.out _ HXX.out
     cases hlg : lngI (S q) with
     | true =>
      obtain rfl : v = 4 := hbd2.out hlg
      rw [hlg] at HLO2
      clear hlg
      go_wp2_with (go_at_call 62; (with_reducible refine (HLO2.out _ HXX.out).mono ?_); rintro e1 w2 ⟨rfl, h1⟩; have HX2 := Lib.hid h1; clear h1)
      go_ret2
      exact rvE_hit HV.out (by decide) rfl (HE.out.trans (HX1.out.trans (HXX.out.trans HX2.out)))
     | false =>
      have HGL : Hid (∀ k, k < q + 1 → lngI (S k) = false) := fun k hk => by
       by_cases h : k = q
       ·subst h; exact hlg
       ·exact H.out.2.2 k (by omega)
      rw [hlg] at HLO2
      clear hlg
      go_wp2_with (go_at_call 62; (with_reducible refine (HLO2.out _ HXX.out).mono ?_); rintro e1 w2 ⟨rfl, h1⟩; have HX2 := Lib.hid h1; clear h1)
      (try rw [← HBS.out])
      (try rw [← HBD.out])
      go_roundw
      case rel => exact ⟨q + 1, _, by omega, by go_num, (HP.out.congr HUP.out).to HX2.out, HXX.out.trans HX2.out, HGL.out⟩
      case measure => simp [intOf]; omega
    ·obtain rfl : q = j := by omega
     have HM1 : Hid (RuI W1 wr g D.nb R' (vkI D S 0) ∧ Ext w1 wr) := ⟨H.out.1.congr fun i hi => by rw [← HLD.out]; exact v1I_end S hi, H.out.2.1⟩
     have HSH : Hid (∀ k, k < q → lngI (S k) = false) := H.out.2.2
     obtain ⟨c0, c1, c2⟩ := HB.out.ext H.out.1.ext
     clear H hlt hq
     go_wp2_with (go_at_call 59; (with_reducible refine (HOR.out _ HM1.out.1.ext).mono ?_); rintro e1 w2 hq; obtain ⟨Ao, co, he, o2, h2⟩ := hq; rw [HLO.out] at he; subst he; have HX2 := Lib.hid h2; have HO2 := Lib.hid o2.rl; have HNO : Hid (∀ b o, Ao = some ⟨b, o, none⟩ → b ≠ g) := (fun b o q => by have h1 := o2.ne b o q; have h2 := HM1.out.1.lv.row.lt; omega); clear h2 o2)
     clear c0 c1 c2
     go_loopw [62] (fun s wq => ∃ (k : Nat) (R' : Nat → RI), k ≤ lo ∧ s = I k ∧ Hid (RuI W1 wq g D.nb R' (vkI D S k) ∧ Ext w1 wq ∧ Rl wq Ao co (ordL D) ∧ ∀ m, m < k → lngI (tkI D S ((ordL D).getD m 0)) = false)) (fun s _ => lo - (intOf s).toNat)
     case atStart => exact ⟨0, _, Nat.zero_le _, rfl, HM1.out.1.to HX2.out, HM1.out.2.trans HX2.out, HO2.out, fun k hk => absurd hk (by omega)⟩
     case round =>
      clear HM1
      obtain ⟨k, R2, hk, rfl, H⟩ := hrel
      obtain ⟨wo, hwo⟩ : ∃ wo, wo = wr := ⟨_, rfl⟩
      subst hwo
      by_cases hlt2 : k < lo
      ·have hk' : k < (ordL D).length := by rw [HLO.out]; exact hlt2
       obtain ⟨bo, oo, hbo, hblo, hco⟩ := H.out.2.2.1.1 (by omega)
       have xo := hco k hk'
       have hrd := ord_rdy hk'
       have hnd : isD D ((ordL D).getD k 0) = false := (rdy_iff.1 hrd.2.1).2.1
       have htk := tkI_ord OK.out S hk'
       have hsh : ∀ z, z < ns D ((ordL D).getD k 0) → ShI (vkI D S k (sr D ((ordL D).getD k 0) z)) := fun z hz => by
        have hs := OK.out.src hrd.1 hz
        have hoff := src_off OK.out hk' hz
        refine (H.out.1.lv.el _ hs.2.1).gd.sh ?_
        rw [vkI_done S hoff]
        rcases (rdy_iff.1 hrd.2.1).2.2 z hz with a | a
        ·obtain ⟨m, hm1, hm2, hm3⟩ := inL_take.1 a
         rw [← hm3]; exact H.out.2.2.2 m hm1
        ·rw [tkI_del S a]; exact HSH.out _ (by rw [← HLD.out]; exact (plc_lt hs.2.1 a).1)
       have hgd : GdI (tkI D S ((ordL D).getD k 0)) := by rw [← htk.1]; exact bvI_gd OK.out hrd.1 hsh
       have HUP : Hid (∀ i, i < D.nb → putI (vkI D S k) ((ordL D).getD k 0) (tkI D S ((ordL D).getD k 0)) i = vkI D S (k + 1) i) := fun i _ => by rw [vkI_succ D S hk', htk.1]
       obtain ⟨x, hxd⟩ : ∃ x, (ordL D).getD k 0 = x := ⟨_, rfl⟩
       have HBAD : Hid (lngI (tkI D S x) = true → v = 4) := fun h => by rw [HVE.out, if_pos (tkH_ord hk' (by rw [hxd]; exact h))]
       have HGD : Hid (lngI (tkI D S x) = false → ∀ m, m < k + 1 → lngI (tkI D S ((ordL D).getD m 0)) = false) := fun h m hm => by
        by_cases z : m = k
        ·rw [z, hxd]; exact h
        ·exact H.out.2.2.2 m (by omega)
       have hxn := hrd.1
       have htk1 := htk.1
       simp only [hxd] at xo hgd HUP hxn hnd htk1 hsh
       have hk2 : (D.B x).k ≠ 2 := fun q => by unfold isD at hnd; rw [q] at hnd; cases hnd
       have dd := HD.out.ext H.out.1.ext
       obtain ⟨b1, o1, hb1, hbl1, hc1⟩ := dd.blocks (by omega)
       obtain ⟨x0, x1, x2, x3, x4, x5⟩ := hc1 x hxn
       obtain ⟨c0, c1, c2⟩ := HB.out.ext H.out.1.ext
       have hxl : (x : Int) < (D.nb : Int) := by omega
       have hltk : (k : Int) < (lo : Int) := by omega
       obtain ⟨W2, hW2⟩ : ∃ W2, W2 = wo.alloc (.cells #[I (D.B x).k, .slice (p.AA x) (D.B x).n (p.cA x), I (D.B x).vn, I (D.B x).ve, I (D.B x).un, I (D.B x).ue] 79) := ⟨_, rfl⟩
       have hE2 : Ext wo W2 := by rw [hW2]; exact Ext.alloc _ _
       have HBX : Hid (∀ w', Ext W2 w' → w'.cell? ⟨wo.heap.size, 0, none⟩ = some (I (D.B x).k) ∧ w'.cell? ⟨wo.heap.size, 1, none⟩ = some (.slice (p.AA x) (D.B x).n (p.cA x)) ∧ w'.cell? ⟨wo.heap.size, 2, none⟩ = some (I (D.B x).vn) ∧ w'.cell? ⟨wo.heap.size, 3, none⟩ = some (I (D.B x).ve) ∧ w'.cell? ⟨wo.heap.size, 4, none⟩ = some (I (D.B x).un) ∧ w'.cell? ⟨wo.heap.size, 5, none⟩ = some (I (D.B x).ue)) := fun w' e => by
        have hb := (B6.new wo (I (D.B x).k) (.slice (p.AA x) (D.B x).n (p.cA x)) (I (D.B x).vn) (I (D.B x).ve) (I (D.B x).un) (I (D.B x).ue) 79)
        rw [← hW2] at hb
        exact (hb.ext e).1
       have hgl : g < wo.heap.size := H.out.1.lv.row.lt
       have HE2 := Lib.hid hE2
       have hzz : W2.heap.size = wo.heap.size + 1 := by rw [hW2]; simp
       have HBO := Lib.hid hbo; have HB1 := Lib.hid hb1
       clear hco hrd hk' hc1 dd htk
       by_cases hk0 : (D.B x).k = 0
       ·have g0' : ((D.B x).k == 0) = true := by simpa using hk0
        obtain ⟨hq, hn1, ha0⟩ := OK.out.inp hxn hk0
        have hval : tkI D S x = prtI (D.P (sr D x 0)) := by rw [← htk1]; unfold bvI; rw [if_pos hk0]
        obtain ⟨y, hy⟩ : ∃ y, sr D x 0 = y := ⟨_, rfl⟩
        rw [hy] at hq ha0 hval
        have hpo := OK.out.port hq
        have hshort : lngI (tkI D S x) = false := by rw [hval]; exact prtI_short (by omega) (by omega) (by omega) (by omega) hpo.1 hpo.2.1
        have HG2 := Lib.hid (HGD.out hshort)
        have HPO : Hid (∀ w', Calls Tryz.prog 35 #[.agg #[I (D.P y).lo, I (D.P y).hi, I (D.P y).fr]] w' (IvN (tkI D S x) w')) := fun w' => by
         rw [hval] at hgd ⊢
         exact IvN.of (rPortI_any (D.P y) w' (by omega) (by omega) (by omega) (by omega) hpo.1 hpo.2.1 ⟨hgd.1.1, Nat.le_trans hgd.1.2 (by decide)⟩ ⟨hgd.2.1.1, Nat.le_trans hgd.2.1.2 (by decide)⟩) hgd
        have hX1q := H.out.1.ext
        obtain ⟨ba, oa, hba, hbla, hca⟩ := (HD.out.args x hxn).1 (by omega)
        have a0 := hca 0 (by omega)
        rw [ha0, Nat.add_zero] at a0
        obtain ⟨bp, op, hbp, hblp, hcp⟩ := HD.out.ports (by omega)
        obtain ⟨p0, p1, p2⟩ := hcp y hq
        have hold := H.out.1.old
        have l0 : w.heap.size < W1.heap.size := by have := HZ.out; omega
        have HNE : Hid (w.heap.size ≠ g ∧ wo.heap.size ≠ g ∧ ba ≠ g ∧ bp ≠ g) := ⟨by omega, by omega, by omega, by omega⟩
        have HS : Hid (∀ w', Ext W2 w' → (w'.cell? ⟨w.heap.size, 0, none⟩ = some (.slice (some ⟨bp, op, none⟩) D.ni p.cI) ∧ w'.cell? ⟨wo.heap.size, 1, none⟩ = some (.slice (some ⟨ba, oa, none⟩) 1 (p.cA x)) ∧ w'.cell? ⟨ba, oa, none⟩ = some (I y)) ∧
          (w'.cell? ⟨bp, op + y * 3, none⟩ = some (I (D.P y).lo) ∧ w'.cell? ⟨bp, op + y * 3 + 1, none⟩ = some (I (D.P y).hi) ∧ w'.cell? ⟨bp, op + y * 3 + 2, none⟩ = some (I (D.P y).fr))) := fun w' e => by
         have e' := hX1q.trans (HE2.out.trans e)
         have z1 := (HBX.out w' e).2.1
         rw [hn1, hba] at z1
         have c0' := HB.out.c0
         rw [hbp] at c0'
         exact ⟨⟨(e'.old.1 _ _ l0).trans c0', z1, (e'.old.1 _ _ hbla).trans a0⟩, ⟨(e'.old.1 _ _ hblp).trans p0, (e'.old.1 _ _ hblp).trans p1, (e'.old.1 _ _ hblp).trans p2⟩⟩
        have hyl : (y : Int) < (D.ni : Int) := by omega
        clear hca hcp hpo hval htk1 hsh hX1q ha0 hgd HBAD HGD hshort
        have HBS := Lib.hid (And.intro hba (And.intro hn1 hbp))
        clear hba hn1 hbp hk0
        generalize tkI D S x = yv at *
        generalize (D.P y).lo = plo at *
        generalize (D.P y).hi = phi at *
        generalize (D.P y).fr = pfr at *
        rw [hbo]
        clear hbo
        go_upto_region 23 with fail
        rw [← hW2]; clear hW2
        clear c0 c1 c2 x0 x1 x2 x3 x4 x5 a0 p0 p1 p2 xo
        obtain ⟨⟨s0, s1, s2⟩, s3, s4, s5⟩ := HS.out W2 (Ext.refl _)
        have hng : ¬ g = W2.heap.size := by omega
        have hgw : g < W2.heap.size := by omega
        go_region_held3 (fun w' => (w'.cell? ⟨w.heap.size, 0, none⟩ = some (.slice (some ⟨bp, op, none⟩) D.ni p.cI) ∧ w'.cell? ⟨wo.heap.size, 1, none⟩ = some (.slice (some ⟨ba, oa, none⟩) 1 (p.cA x)) ∧ w'.cell? ⟨ba, oa, none⟩ = some (I y)) ∧
          (w'.cell? ⟨bp, op + y * 3, none⟩ = some (I plo) ∧ w'.cell? ⟨bp, op + y * 3 + 1, none⟩ = some (I phi) ∧ w'.cell? ⟨bp, op + y * 3 + 2, none⟩ = some (I pfr))) (first | exact HS.out _ ex2 | (refine ⟨⟨?_, ?_, ?_⟩, ?_, ?_, ?_⟩ <;> (rw [cell_far6g (by first | exact HNE.out.1 | exact HNE.out.2.1 | exact HNE.out.2.2.1 | exact HNE.out.2.2.2)]; assumption)))
         (first | (go_at_call 35; (with_reducible refine (HPO.out _).mono ?_); rintro e1 w3 ⟨rr, rfl, cn1, hA1, hx1⟩; have hA1' : NwI W2.heap.size rr yv := hA1; have CN2 := Lib.hid cn1; have HX3 := Lib.hid (show Ext W2 w3 from ex2); have hx3 := HE2.out.trans HX3.out; obtain ⟨d0, d1, d2, d3, d4, d5⟩ := (H.out.1.to hx3).lv.cells hxn; have fz := (H.out.1.to hx3).lv.frozen; have f0 := fz (x * 6); have f1 := fz (x * 6 + 1); have f2 := fz (x * 6 + 2); have f3 := fz (x * 6 + 3); have f4 := fz (x * 6 + 4); have f5 := fz (x * 6 + 5); obtain ⟨⟨t0, t1, t2⟩, t3, t4, t5⟩ := HS.out _ HX3.out; have HP := Lib.hid (H.out.1.put hx3 x rr yv cn1 (hA1'.far (by omega))); have HXX : Hid (Ext w1 _ ∧ Rl _ Ao co (ordL D)) := ⟨st6_ext g x rr (H.out.2.1.trans hx3) HGW.out, (H.out.2.2.1.ext hx3).gr (st6_fr _ g x rr) HNO.out⟩; clear fz cn1 hA1 hA1' hx3))
        all_goals
         go_wp2_with fail
         (try rw [← HBO.out])
         (try rw [← HB1.out])
         go_roundw
         case rel => exact ⟨k + 1, _, by omega, by go_num, HP.out.congr HUP.out, HXX.out.1, HXX.out.2, HG2.out⟩
         case measure => simp [intOf]; omega
       ·have g0' : ((D.B x).k == 0) = false := by simpa using hk0
        have hns : ns D x = (D.B x).n := by unfold ns; rw [if_neg hk0]
        have hn2 := (OK.out.toWF.ns2 hxn).2
        obtain ⟨F, hF⟩ : ∃ F : Nat → IV, F = fun j => vkI D S k (sr D x j) := ⟨_, rfl⟩
        have HF : Hid (∀ j, F j = vkI D S k (sr D x j)) := fun j => by rw [hF]
        have HFS : Hid (∀ j, j < (D.B x).n → ShI (F j)) := fun j hj => by rw [HF.out]; exact hsh j (by omega)
        have HFV : Hid (fI (D.B x) (F 0) (F 1) = tkI D S x) := by
         show _ = _
         rw [← htk1, HF.out, HF.out]; unfold bvI; rw [if_neg hk0]
        have HBK : Hid (∀ w' A c R5, Ext W2 w' → LnI w' A (D.B x).n R5 F → Calls Tryz.prog 39 #[bkv (D.B x).k (p.AA x) (D.B x).n (p.cA x) (D.B x).vn (D.B x).ve (D.B x).un (D.B x).ue, .slice A (D.B x).n c] w' (IvN (tkI D S x) w')) := fun w' A c R5 e l => by
         refine IvN.of ?_ hgd
         rw [← HFV.out]
         exact rrk_any OK.out hxn hk0 hk2 l (Nat.le_refl _) HFS.out
        have HSR : Hid (∀ j, j < (D.B x).n → (D.B x).a j = (sr D x j : Nat) ∧ sr D x j < D.nb) := fun j hj => by
         have hs := OK.out.toWF.src hxn (j := j) (by omega)
         exact ⟨hs.1, hs.2.1⟩
        have hcell := HBX.out W2 (Ext.refl _)
        obtain ⟨z0, z1, z2, z3, z4, z5⟩ := hcell
        clear htk1 hsh hF hns hk0 hk2
        go_upto_region 24 with fail
        rw [← hW2]; clear hW2
        clear c0 c1 c2 x0 x1 x2 x3 x4 x5
        go_wp2_with fail
        (try rw [← hbo])
        (try rw [← hb1])
        clear z0 z1 z2 z3 z4 z5 xo hbo hb1
        have HN0 : Hid (WdI W2 W2 none 0 (fun _ => RI.z) (fun _ => IV.z) 0) := WdI.nil _ _ _
        go_loopw [15, 89] (fun s15 s wy => ∃ (q : Nat) (A : Option Addr) (c : Nat) (R5 : Nat → RI) (V5 : Nat → IV), q ≤ (D.B x).n ∧ s = I q ∧ s15 = .slice A q c ∧ Hid (WdI W2 wy A c R5 V5 q) ∧ Hid (∀ j, j < q → V5 j = F j)) (fun _ s _ => (D.B x).n - (intOf s).toNat)
        case atStart => exact ⟨0, none, 0, _, _, Nat.zero_le _, rfl, rfl, HN0, fun j hj => absurd hj (by omega)⟩
        case round =>
         clear HN0
         obtain ⟨q5, A5, c5, R5, V5, hq5, rfl, rfl, HW, HVF⟩ := hrel
         by_cases hlt5 : q5 < (D.B x).n
         ·have hX5 := HE2.out.trans HW.out.ext
          obtain ⟨ba, oa, hba, hbla, hca⟩ := ((HD.out.ext (H.out.1.ext.trans hX5)).args x hxn).1 (by omega)
          have a0 := hca q5 hlt5
          have hsr := HSR.out q5 hlt5
          rw [hsr.1] at a0
          obtain ⟨y, hy⟩ : ∃ y, sr D x q5 = y := ⟨_, rfl⟩
          rw [hy] at a0 hsr
          have hyn := hsr.2
          have HFY : Hid (vkI D S k y = F q5) := by show _ = _; rw [HF.out, hy]
          have hcy := (H.out.1.lv.el y hyn).ext HE2.out
          rw [HFY.out] at hcy
          have HCY := Lib.hid hcy
          obtain ⟨d0, d1, d2, d3, d4, d5⟩ := (H.out.1.to hX5).lv.cells hyn
          have hgly := (H.out.1.to hX5).lv.row.lt
          have hlt' : (q5 : Int) < ((D.B x).n : Int) := by omega
          have hyl : (y : Int) < (D.nb : Int) := by omega
          have HVF2 : Hid (∀ j, j < q5 + 1 → putI V5 q5 (F q5) j = F j) := fun j hj => by
           unfold putI
           by_cases e : j = q5
           ·rw [if_pos e, e]
           ·rw [if_neg e]; exact HVF.out j (by omega)
          have hw2 := HW.out.ext.size
          clear hca hsr hcy hX5 hy
          generalize R2 y = ry at *
          go_wp2_with (at_builtin; refine appV rfl _ _ rfl W2.heap.size A5 c5 R5 q5 rfl (HW.out.own.ext (Ext.alloc _ _)) ry _ _ rfl (nc6_new _ ry _) (by omega) (by simp; omega) ?_; intro g5 cap w3 hown hgrow hat hltg; have HN := Lib.hid (HW.out.appOld (Ext.alloc _ _) HCY.out hown hgrow hat); clear hown hgrow hat hltg)
          (try rw [← hba])
          go_roundw
          case rel => exact ⟨q5 + 1, _, _, _, _, by omega, by go_num, rfl, HN, HVF2⟩
          case measure => simp [intOf]; omega
         ·have hq6 : q5 = (D.B x).n := by omega
          have hW := HW.out.ext
          obtain ⟨z0, z1, z2, z3, z4, z5⟩ := HBX.out _ hW
          have HL5 : Hid (LnI wr A5 (D.B x).n R5 F) := by rw [← hq6]; exact HW.out.ln.congr HVF.out
          have HBB2 : Hid (∀ w', Ext wr w' → Calls Tryz.prog 39 #[bkv (D.B x).k (p.AA x) (D.B x).n (p.cA x) (D.B x).vn (D.B x).ve (D.B x).un (D.B x).ue, .slice A5 q5 c5] w' (IvN (tkI D S x) w')) := fun w' e => by
           rw [hq6]; exact HBK.out _ _ _ _ (hW.trans e) (HL5.out.ext e)
          have hltf : ¬ (q5 : Int) < ((D.B x).n : Int) := by omega
          have HXo := Lib.hid (HE2.out.trans hW)
          have hgW : g < wr.heap.size := Nat.lt_of_lt_of_le hgl (HE2.out.trans hW).size
          clear hq6 hW HBK HFV HFS
          generalize tkI D S x = yv at *
          go_upto_region 31 with (go_at_call 39; (with_reducible refine (HBB2.out _ (Ext.refl _)).mono ?_); rintro e1 w3 ⟨rr, rfl, cn1, hA1, hx1⟩; have hA1' : NwI wr.heap.size rr yv := hA1; have CN2 := Lib.hid cn1; have hx3 := HXo.out.trans hx1; obtain ⟨d0, d1, d2, d3, d4, d5⟩ := (H.out.1.to hx3).lv.cells hxn; have fz := (H.out.1.to hx3).lv.frozen; have f0 := fz (x * 6); have f1 := fz (x * 6 + 1); have f2 := fz (x * 6 + 2); have f3 := fz (x * 6 + 3); have f4 := fz (x * 6 + 4); have f5 := fz (x * 6 + 5); have HP := Lib.hid (H.out.1.put hx3 x rr yv cn1 (hA1'.far hgW)); have HXX : Hid (Ext w1 (st6 w3 g x rr) ∧ Rl (st6 w3 g x rr) Ao co (ordL D)) := ⟨st6_ext g x rr (H.out.2.1.trans hx3) HGW.out, (H.out.2.2.1.ext hx3).gr (st6_fr _ g x rr) HNO.out⟩; clear fz cn1 hA1 hA1' hx3)
          obtain ⟨wy, hwy⟩ : ∃ wy, wy = (((((w3.setCell ⟨g, x * 6, none⟩ (.bool rr.lo.neg)).setCell ⟨g, x * 6 + 1, none⟩ (.slice rr.lo.A rr.lo.n rr.lo.c)).setCell ⟨g, x * 6 + 2, none⟩ (I rr.lo.den)).setCell ⟨g, x * 6 + 3, none⟩ (.bool rr.hi.neg)).setCell ⟨g, x * 6 + 4, none⟩ (.slice rr.hi.A rr.hi.n rr.hi.c)).setCell ⟨g, x * 6 + 5, none⟩ (I rr.hi.den) := ⟨_, rfl⟩
          have hst : st6 w3 g x rr = wy := by rw [hwy]
          rw [hst] at HP HXX
          rw [← hwy]
          clear hst hwy d0 d1 d2 d3 d4 d5 f0 f1 f2 f3 f4 f5 z0 z1 z2 z3 z4 z5
          obtain ⟨d0, d1, d2, d3, d4, d5⟩ := HP.out.lv.cells hxn
          have cy := HP.out.lv.el x hxn
          rw [ciR_at] at d0 d1 d2 d3 d4 d5
          rw [ciR_at, putI_same] at cy
          have HLO2 : Hid (∀ w', Ext wy w' → Calls Tryz.prog 62 #[rr.v] w' fun e w'' => e = .returned (.bool (lngI yv)) ∧ Ext w' w'') := fun w' e => rlongI_any (cy.ext e)
          clear cy
          cases hlg : lngI yv with
          | true =>
           obtain rfl : v = 4 := HBAD.out hlg
           rw [hlg] at HLO2
           clear HGD HBAD
           go_wp2_with (go_at_call 62; (with_reducible refine (HLO2.out _ (Ext.refl _)).mono ?_); rintro e1 w4 ⟨rfl, h3⟩; have HX4 := Lib.hid h3; clear h3)
           go_ret2
           exact rvE_hit HV.out (by decide) rfl (HE.out.trans (HX1.out.trans (HXX.out.1.trans HX4.out)))
          | false =>
           have HG2 := Lib.hid (HGD.out hlg)
           rw [hlg] at HLO2
           clear HGD HBAD
           go_wp2_with (go_at_call 62; (with_reducible refine (HLO2.out _ (Ext.refl _)).mono ?_); rintro e1 w4 ⟨rfl, h3⟩; have HX4 := Lib.hid h3; clear h3)
           go_roundw
           case rel => exact ⟨k + 1, _, by omega, by go_num, (HP.out.congr HUP.out).to HX4.out, HXX.out.1.trans HX4.out, HXX.out.2.ext HX4.out, HG2.out⟩
           case measure => simp [intOf]; omega
      ·obtain rfl : k = lo := by omega
       have HG1 : Hid (v = 0) := by
        show v = 0
        rw [HVE.out, if_neg]
        rw [tkH_all OK.out (fun z hz => HSH.out z (by rw [← HLD.out]; exact hz)) (fun z hz => H.out.2.2.2 z (by rw [← HLO.out]; exact hz))]; decide
       have HV1 : Hid (∀ i, i < D.nb → vkI D S k i = tkI D S i) := fun i _ => by rw [← HLO.out, vkI_end]
       go_wp2_with fail
       go_ret2
       exact .inr ⟨by rw [HV.out, HG1.out], _, _, R2, rfl, (H.out.1.congr HV1.out).lv.ln, HE.out.trans H.out.1.ext⟩
end Go.Proofs.YtgnngldlgcdnfaaGreatDoor
