import Derived.Test.YtgnngldlgcdnfaaGreatDoorQbf
import Derived.Test.YtgnngldlgcdnfaaGreatDoorQah
import Derived.Test.YtgnngldlgcdnfaaGreatDoorQaq
import Derived.Test.YtgnngldlgcdnfaaGreatDoorQao
import Derived.Test.YtgnngldlgcdnfaaGreatDoorQae
import Derived.Test.YtgnngldlgcdnfaaGreatDoorQak
import Derived.Test.YtgnngldlgcdnfaaGreatDoorQax
import Derived.Test.YtgnngldlgcdnfaaGreatDoorQal
import Derived.Deep.RegionHeld3
import Derived.Test.YtgnngldlgcdnfaaGreatDoorQan
namespace Go.Proofs.YtgnngldlgcdnfaaGreatDoor
section
open Go Go.RowKit
attribute [local go_sem ↓] Go.wp_at_zero Go.wp_at_succ
def hulI (x y : IV) : IV := ⟨lo4 x.lo x.hi y.lo y.hi, hi4 x.lo x.hi y.lo y.hi⟩
def rdI (x : IV) : IV := ⟨floorD x.lo 64, ceilD x.hi 64⟩
def nxI (D : Dia) (S : Nat → IV) (k : Nat) : IV := rdI (hulI (S k) (tkI D S (sdI D k)))
theorem hul_sh {x y : IV} (hx : ShI x) (hy : ShI y) : ShI (hulI x y) :=
 ⟨shr_min (shr_min (shr_min hx.1 hx.2.1) hy.1) hy.2.1, shr_max (shr_max (shr_max hx.1 hx.2.1) hy.1) hy.2.1, (gd_four hx.1.end_ hx.2.1.end_ hy.1.end_ hy.2.1.end_).2.2⟩
theorem IvOk.cn {a b : DV} {w : World} {e : Ending} {w' : World} (h : IvOk a b w e w') (ha : End a) (hb : End b) (hle : a.q ≤ b.q) :
  ∃ rr : RI, e = .returned (.tuple #[rr.v, .nilIface]) ∧ CnI w' rr ⟨a, b⟩ ∧ NwI w.heap.size rr ⟨a, b⟩ ∧ Ext w w' := by
 obtain ⟨A, c, B, k, he, h1, h2, h3⟩ := h
 exact ⟨ciR ⟨a, b⟩ A c B k, he, ⟨Cn.of h1.rd h1.ok ha.1 (Nat.le_trans ha.2 (by decide)), Cn.of h2.rd h2.ok hb.1 (Nat.le_trans hb.2 (by decide)), ha.2, hb.2, hle⟩, ⟨h1.2.2, h2.2.2⟩, h3⟩
theorem rd_gd {x : IV} (h : ShI x) : GdI (rdI x) := by
 have l1 := lim_floor x.lo 64; have l2 := lim_ceil x.hi 64
 have e1 := h.1.len; have e2 := h.2.1.len
 refine ⟨⟨floorD_ok h.1.ok 64, by show len (floorD x.lo 64).m ≤ _; omega⟩, ⟨negD_ok _, by show len (ceilD x.hi 64).m ≤ _; omega⟩, ?_⟩
 have f1 := (floor_q h.1.ok 64 (by decide)).1
 have f2 := (floor_q (negD_ok x.hi) 64 (by decide)).1
 have e3 : (ceilD x.hi 64).q = -(floorD (negD x.hi) 64).q := q_negD (floorD_ok (negD_ok _) 64)
 have e4 : (negD x.hi).q = -x.hi.q := q_negD h.2.1.ok
 have := h.2.2
 show (floorD x.lo 64).q ≤ (ceilD x.hi 64).q
 grind
theorem ev_short {D : Dia} {n : Nat} {b : Nat → Bool} {S : Nat → IV} (hz : evE D n b S = 0) {k : Nat} (hk : k < n) : lngI (S k) = false := by
 obtain ⟨hn, _, hl⟩ := evE_good hz
 cases h : lngI (S k) with
 | false => rfl
 | true =>
  have := tkH_del (S := S) (by omega : k < (delL D).length) h
  unfold tkH at this
  obtain ⟨i, hi, hb⟩ := allN_false.1 this
  rw [hl i hi] at hb; cases hb
def RoP (D : Dia) (n : Nat) (b : Nat → Bool) (S : Nat → IV) (w : World) (e : Ending) (w' : World) : Prop :=
 (evE D n b S ≠ 0 ∧ e = .returned (.tuple #[.slice none 0 0, .iface 48 (I (evE D n b S))]) ∧ Ext w w') ∨
 (evE D n b S = 0 ∧ ∃ g R, e = .returned (.tuple #[.slice (some ⟨g, 0, none⟩) n n, .nilIface]) ∧ BuI w w' g n R (nxI D S))
set_option maxRecDepth 100000 in
set_option maxHeartbeats 1000000 in
theorem round_bad {w : World} {D : Dia} {p : Pl} {Ao Ad As Ai : Option Addr} {lo ld co cd ns' cs n ci : Nat} {R : Nat → RI} {S : Nat → IV} {b : Nat → Bool} (d : Dm w D p) (ok : OkD D) (hT : Tabs w) (hld : (delL D).length = ld) (hlo : (ordL D).length = lo)
  (rd : Rl w Ad cd (delL D)) (ro : Rl w Ao co (ordL D)) (rs : RnI w Ai n R) (el : ∀ k, k < n → ElI w (R k) (S k) (b k)) (hz : evE D n b S ≠ 0) :
  Calls Tryz.prog 72 #[anv D p Ao lo co Ad ld cd As ns' cs, .slice Ai n ci] w fun e w' => e = .returned (.tuple #[.slice none 0 0, .iface 48 (I (evE D n b S))]) ∧ Ext w w' := by
 have HV : Hid (∀ w', Ext w w' → Calls Tryz.prog 55 #[anv D p Ao lo co Ad ld cd As ns' cs, .slice Ai n ci] w' (fun e w'' => e = .returned (.tuple #[.slice none 0 0, .iface 48 (I (evE D n b S))]) ∧ Ext w' w'')) := fun w' e => (evaluate_any (d.ext e) ok (hT.ext e) hld hlo (rd.ext e) (ro.ext e) (rs.ext e) fun k hk => (el k hk).ext e).mono fun e w'' hh => by
  rcases hh with ⟨_, h2, h3⟩ | ⟨h1, _⟩
  ·exact ⟨h2, h3⟩
  ·exact absurd h1 hz
 clear hz d ok hT hld hlo rd ro rs el
 generalize evE D n b S = cd0 at *
 go_enter Tryz.func72, Tryz.ntmps72
 go_wp2_with (go_at_call 55; (with_reducible refine (HV.out _ (Ext.alloc _ _)).mono ?_); rintro e2 w2 ⟨rfl, hr⟩; have HR := Lib.hid ((Ext.alloc _ _).trans hr); clear hr)
 go_ret2
 exact ⟨rfl, HR.out⟩
set_option maxRecDepth 100000 in
set_option maxHeartbeats 8000000 in
theorem round_ok {w : World} {D : Dia} {p : Pl} {Ao Ad As Ai : Option Addr} {lo co cd ns' cs n ci : Nat} {R : Nat → RI} {S : Nat → IV} {b : Nat → Bool} (d : Dm w D p) (ok : OkD D) (hT : Tabs w) (hlo : (ordL D).length = lo)
  (rd : Rl w Ad cd (delL D)) (ro : Rl w Ao co (ordL D)) (rs : RnI w Ai n R) (el : ∀ k, k < n → ElI w (R k) (S k) (b k)) (hz : evE D n b S = 0) :
  Calls Tryz.prog 72 #[anv D p Ao lo co Ad n cd As ns' cs, .slice Ai n ci] w fun e w' => ∃ g R, e = .returned (.tuple #[.slice (some ⟨g, 0, none⟩) n n, .nilIface]) ∧ BuI w w' g n R (nxI D S) := by
 obtain ⟨hn, hbt, hl⟩ := evE_good hz
 have HCN : Hid (∀ k, k < n → CnI w (R k) (S k)) := fun k hk => (el k hk).cn (hbt k hk)
 have HSH : Hid (∀ k, k < n → ShI (S k)) := fun k hk => (HCN.out k hk).gd.sh (ev_short hz hk)
 have HLG := Lib.hid hl
 have HV2 : Hid (∀ w', Ext w w' → Calls Tryz.prog 55 #[anv D p Ao lo co Ad n cd As ns' cs, .slice Ai n ci] w' (fun e w'' => ∃ g R, e = .returned (.tuple #[.slice (some ⟨g, 0, none⟩) D.nb D.nb, .nilIface]) ∧ BuI w' w'' g D.nb R (tkI D S))) := fun w' e => (evaluate_any (d.ext e) ok (hT.ext e) hn.symm hlo (rd.ext e) (ro.ext e) (rs.ext e) fun k hk => (el k hk).ext e).mono fun e w'' hh => by
  rcases hh with ⟨h1, _⟩ | ⟨_, h2⟩
  ·exact absurd hz h1
  ·exact h2
 have HSR : Hid (∀ w' (j : Nat), Ext w w' → j < n → Calls Tryz.prog 56 #[anv D p Ao lo co Ad n cd As ns' cs, I j] w' (fun e w'' => e = .returned (I (sdI D j)) ∧ Ext w' w'')) := fun w' j e hj => rsource_any (d.ext e) ok (rd.ext e) hn.symm hj
 have HSL : Hid (∀ j, j < n → sdI D j < D.nb) := fun j hj => sdI_lt ok (by omega)
 have hnm : n ≤ 100000 := by have := del_le D; have := ok.nb; omega
 have HRS := Lib.hid rs; have HT := Lib.hid hT
 have hmk := fun w => run_makeI w n hnm
 obtain ⟨W1, hW1⟩ : ∃ W1, W1 = w.alloc (.cells #[.slice p.AI D.ni p.cI, .slice p.AB D.nb p.cB, .slice p.AO D.no p.cO, .slice Ao lo co, .slice Ad n cd, .slice As ns' cs] 102) := ⟨_, rfl⟩
 have hE : Ext w W1 := by rw [hW1]; exact Ext.alloc _ _
 have HB : Hid (B6A W1 w.heap.size D p Ao lo co Ad n cd As ns' cs) := by show B6A _ _ _ _ _ _ _ _ _ _ _ _ _; rw [hW1]; exact B6.new _ _ _ _ _ _ _ _
 have HE := Lib.hid hE
 obtain ⟨⟨c0, c1, c2, c3, c4, c5⟩, _⟩ := HB.out
 clear d ok hlo rs el hz hbt hn hl rd ro hT hE
 go_enter Tryz.func72, Tryz.ntmps72
 go_upto_region 1 with fail
 rw [← hW1]; clear hW1
 go_upto_region 5 with (go_at_call 55; (with_reducible refine (HV2.out _ HE.out).mono ?_); rintro e2 w2 ⟨gr, R2, rfl, hr⟩; have HR := Lib.hid hr; clear hr c0 c1 c2 c3 c4 c5)
 obtain ⟨g, hg⟩ : ∃ g, w2.heap.size = g := ⟨_, rfl⟩
 obtain ⟨wz, hwz⟩ : ∃ wz, wz = w2.alloc (.cells (madeCells #[.bool false, .slice none 0 0, I 0, .bool false, .slice none 0 0, I 0] (n * 6)) 58) := ⟨_, rfl⟩
 have HX2 : Hid (Ext W1 w2) := HR.out.ext
 have HM0 : Hid (BuI w wz g n (fun _ => RI.z) (uptoI (nxI D S) 0)) := by
  show BuI _ _ _ _ _ _
  rw [hwz]
  exact (BuI.new _ (HE.out.trans HX2.out) hg.symm).congr fun i _ => by unfold uptoI; rw [if_neg (by omega)]
 have HXZ : Hid (Ext w2 wz) := by show Ext _ _; rw [hwz]; exact Ext.alloc _ _
 have HGR : Hid (gr < g) := by show _ < _; rw [← hg]; exact HR.out.lv.row.lt
 have HGW : Hid (w2.heap.size ≤ g) := by show _ ≤ _; omega
 (try rw [hg])
 rw [← hwz]
 clear hwz hmk hg
 have HL2 := Lib.hid HR.out.lv
 clear HR HV2
 go_wp2_with fail
 go_loopw [24] (fun s wr => ∃ (j : Nat) (R' : Nat → RI), j ≤ n ∧ s = I j ∧ Hid (BuI w wr g n R' (uptoI (nxI D S) j) ∧ Ext w2 wr)) (fun s _ => n - (intOf s).toNat)
 case atStart => exact ⟨0, _, Nat.zero_le _, rfl, HM0.out, HXZ.out⟩
 case round =>
  clear HM0 HXZ
  obtain ⟨j, R', hj, rfl, H⟩ := hrel
  by_cases hlt : j < n
  ·obtain ⟨bs, os, rfl, hbs, hcs⟩ := HRS.out.ext (HE.out.trans (HX2.out.trans H.out.2)) (by omega)
   have hz1 := HB.out.lt; have hz2 := HX2.out.size; have hz3 := HGW.out; have hz4 := HGR.out; have hz5 := HE.out.size
   have hbg : ¬ bs = g := by
    obtain ⟨b', o', e', hb', _⟩ := HRS.out (by omega)
    injection e' with e'; injection e' with e1 e2
    omega
   obtain ⟨x0, x1, x2, x3, x4, x5⟩ := hcs j hlt
   obtain ⟨⟨a0, a1, a2, a3, a4, a5⟩, _⟩ := HB.out.ext (HX2.out.trans H.out.2)
   have hga := (HB.out.ext (HX2.out.trans H.out.2)).lt
   have hag : ¬ w.heap.size = g := by omega
   obtain ⟨q, hq⟩ : ∃ q, sdI D j = q := ⟨_, rfl⟩
   have hqn := HSL.out j hlt
   rw [hq] at hqn
   obtain ⟨r0, r1, r2, r3, r4, r5⟩ := (HL2.out.ext H.out.2).cells hqn
   have hgr := (HL2.out.ext H.out.2).row.lt
   have hrg : ¬ gr = g := by omega
   have hlt' : (j : Int) < (n : Int) := by omega
   have hq' : (q : Int) < (D.nb : Int) := by omega
   have cn := (HCN.out j hlt).ext (HE.out.trans (HX2.out.trans H.out.2))
   have cr := (HL2.out.el q hqn).ext H.out.2
   have sq : ShI (tkI D S q) := cr.gd.sh (HLG.out q hqn)
   obtain ⟨hu, hhu⟩ : ∃ hu, hulI (S j) (tkI D S q) = hu := ⟨_, rfl⟩
   have HU : Hid (ShI hu) := by show ShI _; rw [← hhu]; exact hul_sh (HSH.out j hlt) sq
   have HTr := Lib.hid (HT.out.ext (HE.out.trans (HX2.out.trans H.out.2)))
   have HHU : Hid (∀ w', Ext wr w' → Calls Tryz.prog 140 #[(R j).v, (R2 q).v] w' (IvN hu w')) := fun w' e => by
    rw [← hhu]; exact IvN.of (hull_any (cn.ext e).iw (cr.ext e).iw (HTr.out.ext e)) (hul_sh (HSH.out j hlt) sq).gd
   obtain ⟨yv, hyv⟩ : ∃ yv, rdI hu = yv := ⟨_, rfl⟩
   have HRO : Hid (∀ w' rr, Ext wr w' → CnI w' rr hu → Calls Tryz.prog 139 #[rr.v, I 64] w' (fun e w'' => ∃ r2 : RI, e = .returned (.tuple #[r2.v, .nilIface]) ∧ CnI w'' r2 yv ∧ NwI w'.heap.size r2 yv ∧ Ext w' w'')) := fun w' rr e c => by
    have gd := rd_gd HU.out
    rw [← hyv]
    exact (iround_ok c.iw (HTr.out.ext e) 64 (by decide)).mono fun e w'' hh => hh.cn gd.1 gd.2.1 gd.2.2
   have HC3 : Hid (∀ w', Ext wr w' → Calls Tryz.prog 56 #[anv D p Ao lo co Ad n cd As ns' cs, I j] w' fun e w'' => e = .returned (I q) ∧ Ext w' w'') := fun w' e => by rw [← hq]; exact HSR.out w' j ((HE.out.trans (HX2.out.trans H.out.2)).trans e) hlt
   have HUP : Hid (∀ i, i < n → putI (uptoI (nxI D S) j) j yv i = uptoI (nxI D S) (j + 1) i) := fun i _ => by
    have e1 : nxI D S j = yv := by unfold nxI; rw [hq, hhu, hyv]
    rw [← e1]; exact uptoI_put (nxI D S) j i
   clear hcs hq cn cr sq hhu hyv
   generalize R j = rj at *
   generalize R2 q = rq at *
   have HS : Hid (∀ w', Ext wr w' → (w'.cell? ⟨w.heap.size, 0, none⟩ = some (.slice p.AI D.ni p.cI) ∧ w'.cell? ⟨w.heap.size, 1, none⟩ = some (.slice p.AB D.nb p.cB) ∧ w'.cell? ⟨w.heap.size, 2, none⟩ = some (.slice p.AO D.no p.cO) ∧ w'.cell? ⟨w.heap.size, 3, none⟩ = some (.slice Ao lo co) ∧ w'.cell? ⟨w.heap.size, 4, none⟩ = some (.slice Ad n cd) ∧ w'.cell? ⟨w.heap.size, 5, none⟩ = some (.slice As ns' cs)) ∧ (w'.cell? ⟨bs, os + j * 6, none⟩ = some (.bool rj.lo.neg) ∧ w'.cell? ⟨bs, os + j * 6 + 1, none⟩ = some (.slice rj.lo.A rj.lo.n rj.lo.c) ∧ w'.cell? ⟨bs, os + j * 6 + 2, none⟩ = some (I rj.lo.den) ∧ w'.cell? ⟨bs, os + j * 6 + 3, none⟩ = some (.bool rj.hi.neg) ∧ w'.cell? ⟨bs, os + j * 6 + 4, none⟩ = some (.slice rj.hi.A rj.hi.n rj.hi.c) ∧ w'.cell? ⟨bs, os + j * 6 + 5, none⟩ = some (I rj.hi.den)) ∧ (w'.cell? ⟨gr, q * 6, none⟩ = some (.bool rq.lo.neg) ∧ w'.cell? ⟨gr, q * 6 + 1, none⟩ = some (.slice rq.lo.A rq.lo.n rq.lo.c) ∧ w'.cell? ⟨gr, q * 6 + 2, none⟩ = some (I rq.lo.den) ∧ w'.cell? ⟨gr, q * 6 + 3, none⟩ = some (.bool rq.hi.neg) ∧ w'.cell? ⟨gr, q * 6 + 4, none⟩ = some (.slice rq.hi.A rq.hi.n rq.hi.c) ∧ w'.cell? ⟨gr, q * 6 + 5, none⟩ = some (I rq.hi.den))) := fun w' e =>
    ⟨⟨(e.old.1 _ _ hga).trans a0, (e.old.1 _ _ hga).trans a1, (e.old.1 _ _ hga).trans a2, (e.old.1 _ _ hga).trans a3, (e.old.1 _ _ hga).trans a4, (e.old.1 _ _ hga).trans a5⟩, ⟨(e.old.1 _ _ hbs).trans x0, (e.old.1 _ _ hbs).trans x1, (e.old.1 _ _ hbs).trans x2, (e.old.1 _ _ hbs).trans x3, (e.old.1 _ _ hbs).trans x4, (e.old.1 _ _ hbs).trans x5⟩, ⟨(e.old.1 _ _ hgr).trans r0, (e.old.1 _ _ hgr).trans r1, (e.old.1 _ _ hgr).trans r2, (e.old.1 _ _ hgr).trans r3, (e.old.1 _ _ hgr).trans r4, (e.old.1 _ _ hgr).trans r5⟩⟩
   clear a0 a1 a2 a3 a4 a5 x0 x1 x2 x3 x4 x5 r0 r1 r2 r3 r4 r5
   obtain ⟨⟨a0, a1, a2, a3, a4, a5⟩, ⟨x0, x1, x2, x3, x4, x5⟩, ⟨r0, r1, r2, r3, r4, r5⟩⟩ := HS.out wr (Ext.refl _)
   go_upto_region 8 with fail
   go_region_held3 (fun w' => (w'.cell? ⟨w.heap.size, 0, none⟩ = some (.slice p.AI D.ni p.cI) ∧ w'.cell? ⟨w.heap.size, 1, none⟩ = some (.slice p.AB D.nb p.cB) ∧ w'.cell? ⟨w.heap.size, 2, none⟩ = some (.slice p.AO D.no p.cO) ∧ w'.cell? ⟨w.heap.size, 3, none⟩ = some (.slice Ao lo co) ∧ w'.cell? ⟨w.heap.size, 4, none⟩ = some (.slice Ad n cd) ∧ w'.cell? ⟨w.heap.size, 5, none⟩ = some (.slice As ns' cs)) ∧ (w'.cell? ⟨bs, os + j * 6, none⟩ = some (.bool rj.lo.neg) ∧ w'.cell? ⟨bs, os + j * 6 + 1, none⟩ = some (.slice rj.lo.A rj.lo.n rj.lo.c) ∧ w'.cell? ⟨bs, os + j * 6 + 2, none⟩ = some (I rj.lo.den) ∧ w'.cell? ⟨bs, os + j * 6 + 3, none⟩ = some (.bool rj.hi.neg) ∧ w'.cell? ⟨bs, os + j * 6 + 4, none⟩ = some (.slice rj.hi.A rj.hi.n rj.hi.c) ∧ w'.cell? ⟨bs, os + j * 6 + 5, none⟩ = some (I rj.hi.den)) ∧ (w'.cell? ⟨gr, q * 6, none⟩ = some (.bool rq.lo.neg) ∧ w'.cell? ⟨gr, q * 6 + 1, none⟩ = some (.slice rq.lo.A rq.lo.n rq.lo.c) ∧ w'.cell? ⟨gr, q * 6 + 2, none⟩ = some (I rq.lo.den) ∧ w'.cell? ⟨gr, q * 6 + 3, none⟩ = some (.bool rq.hi.neg) ∧ w'.cell? ⟨gr, q * 6 + 4, none⟩ = some (.slice rq.hi.A rq.hi.n rq.hi.c) ∧ w'.cell? ⟨gr, q * 6 + 5, none⟩ = some (I rq.hi.den))) (first | exact HS.out _ ex2 | (refine ⟨⟨?_, ?_, ?_, ?_, ?_, ?_⟩, ⟨?_, ?_, ?_, ?_, ?_, ?_⟩, ⟨?_, ?_, ?_, ?_, ?_, ?_⟩⟩ <;> (rw [cell_far6g (by omega)]; assumption)))
    (first
    | (go_at_call 56; (with_reducible refine (HC3.out _ ex2).mono ?_); rintro e1 w3 ⟨rfl, h3⟩)
    | (go_at_call 140; (with_reducible refine (HHU.out _ ex2).mono ?_); rintro e1 w4 ⟨rh, rfl, cn4, _, h4⟩; have CN4 := Lib.hid cn4; clear cn4)
    | (go_at_call 139; (with_reducible refine (HRO.out _ _ ex2 (CN4.out.ext ex2)).mono ?_); rintro e1 w5 ⟨rr, rfl, cn5, nw5, h5⟩; have CN5 := Lib.hid cn5; have hx5 : Ext wr w5 := ex2; have HX5 := Lib.hid hx5; have HA5 : Hid (NwI wr.heap.size rr yv) := nw5.mono (show Ext wr _ from ex2).size; clear cn5 nw5; obtain ⟨⟨a0, a1, a2, a3, a4, a5⟩, ⟨x0, x1, x2, x3, x4, x5⟩, ⟨r0, r1, r2, r3, r4, r5⟩⟩ := HS.out w5 hx5; have fz := (H.out.1.to hx5).lv.frozen; have f0 := fz (j * 6); have f1 := fz (j * 6 + 1); have f2 := fz (j * 6 + 2); have f3 := fz (j * 6 + 3); have f4 := fz (j * 6 + 4); have f5 := fz (j * 6 + 5); obtain ⟨d0, d1, d2, d3, d4, d5⟩ := (H.out.1.to hx5).lv.cells hlt; clear fz))
   all_goals
    have hp0 := H.out.1.put HX5.out j rr yv CN5.out HA5.out
    have hxx0 := st6_ext g j rr (H.out.2.trans HX5.out) HGW.out
    obtain ⟨wy, hwy⟩ : ∃ wy, wy = (((((w5.setCell ⟨g, j * 6, none⟩ (.bool rr.lo.neg)).setCell ⟨g, j * 6 + 1, none⟩ (.slice rr.lo.A rr.lo.n rr.lo.c)).setCell ⟨g, j * 6 + 2, none⟩ (I rr.lo.den)).setCell ⟨g, j * 6 + 3, none⟩ (.bool rr.hi.neg)).setCell ⟨g, j * 6 + 4, none⟩ (.slice rr.hi.A rr.hi.n rr.hi.c)).setCell ⟨g, j * 6 + 5, none⟩ (I rr.hi.den) := ⟨_, rfl⟩
    have hst : st6 w5 g j rr = wy := by rw [hwy]
    rw [hst] at hp0 hxx0
    rw [← hwy]
    clear hst
    have HP := Lib.hid hp0; have HXX := Lib.hid hxx0
    clear hp0 hxx0 hwy d0 d1 d2 d3 d4 d5 f0 f1 f2 f3 f4 f5
    go_wp2_with fail
    go_roundw
    case rel => exact ⟨j + 1, _, by omega, by go_num, HP.out.congr HUP.out, HXX.out⟩
    case measure => simp [intOf]; omega
  ·obtain rfl : j = n := by omega
   go_wp2_with fail
   go_ret2
   exact ⟨g, R', rfl, H.out.1.congr fun i hi => uptoI_end hi⟩
end
section
open Go Go.RowKit
attribute [local go_sem ↓] Go.wp_at_zero Go.wp_at_succ
set_option maxRecDepth 100000 in
set_option maxHeartbeats 1000000 in
theorem indexI_any (g : FuncId) (A : Option Addr) (n c : Nat) (R : Nat → RI) (q : Nat → Bool) (w : World) (r : RnI w A n R) (hn : n ≤ 100000) (eg : ∀ args w, (callFunc g args).run Tryz.prog w = .ok (.enter g args) w)
  (hf0 : ∀ (i : Nat) (w' : World), i < n → Ext w w' → Calls Tryz.prog g #[(R i).v] w' fun e w'' => e = .returned (.bool (q i)) ∧ Ext w' w'') :
  Calls Tryz.prog 136 #[.slice A n c, .func (.func g) #[] #[]] w fun e w' => e = .returned (I (fstI n q)) ∧ Ext w w' := by
 have HF := Lib.hid hf0; clear hf0
 have R' := Lib.hid r; clear r
 go_enter Tryz.func136, Tryz.ntmps136
 go_wp2
 go_loopw [8] (fun s wr => ∃ j : Nat, j ≤ n ∧ s = I j ∧ Ext w wr ∧ Hid (∀ i, i < j → q i = false)) (fun s _ => n - (intOf s).toNat)
 case atStart => exact ⟨0, Nat.zero_le _, rfl, Ext.refl _, fun i hi => absurd hi (by omega)⟩
 case round =>
  obtain ⟨j, hj, rfl, hb, HG⟩ := hrel
  by_cases hlt : j < n
  ·obtain ⟨b, o, rfl, hba, ca⟩ := R'.out.ext hb (by omega)
   obtain ⟨x0, x1, x2, x3, x4, x5⟩ := ca j hlt
   have hlt' : (j : Int) < (n : Int) := by omega
   clear ca
   have hc0 := HF.out j _ hlt hb
   generalize R j = y at *
   have HC := Lib.hid hc0; clear hc0
   cases hq : q j with
   | true =>
    rw [hq] at HC
    have HR := Lib.hid (fstI_hit HG.out hlt hq)
    clear hq
    go_wp2_with (go_at_fn g; refine HC.out.mono ?_; rintro e w1 ⟨rfl, hb1⟩; replace hb := Ext.trans hb hb1; clear hb1)
    go_ret
    exact ⟨by rw [HR.out]; rfl, hb⟩
   | false =>
    rw [hq] at HC
    have HG2 : Hid (∀ i, i < j + 1 → q i = false) := fun i hi => by
     by_cases h : i = j
     ·subst h; exact hq
     ·exact HG.out i (by omega)
    clear hq
    go_wp2_with (go_at_fn g; refine HC.out.mono ?_; rintro e w1 ⟨rfl, hb1⟩; replace hb := Ext.trans hb hb1; clear hb1)
    go_roundw
    case rel => exact ⟨j + 1, by omega, by go_num, hb, HG2⟩
    case measure => simp [intOf]; omega
  ·obtain rfl : j = n := by omega
   have HR := Lib.hid (fstI_none HG.out)
   go_wp2
   go_ret
   exact ⟨by rw [HR.out]; rfl, hb⟩
set_option maxRecDepth 100000 in
set_option maxHeartbeats 1000000 in
theorem containsI_any (g : FuncId) (A : Option Addr) (n c : Nat) (R : Nat → RI) (q : Nat → Bool) (w : World) (r : RnI w A n R) (hn : n ≤ 100000) (eg : ∀ args w, (callFunc g args).run Tryz.prog w = .ok (.enter g args) w)
  (hf0 : ∀ (i : Nat) (w' : World), i < n → Ext w w' → Calls Tryz.prog g #[(R i).v] w' fun e w'' => e = .returned (.bool (q i)) ∧ Ext w' w'') :
  Calls Tryz.prog 70 #[.slice A n c, .func (.func g) #[] #[]] w fun e w' => e = .returned (.bool (anyN n q)) ∧ Ext w w' := by
 have HC := Lib.hid (indexI_any g A n c R q w r hn eg hf0)
 clear hf0 r eg
 unfold anyN
 generalize fstI n q = z at *
 by_cases h : 0 ≤ z
 all_goals
  go_enter Tryz.func70, Tryz.ntmps70
  go_wp2_with (go_at_call 136; refine HC.out.mono ?_; rintro e w1 ⟨rfl, hb1⟩)
  go_ret
  exact ⟨by simp [h], hb1⟩
set_option maxRecDepth 100000 in
set_option maxHeartbeats 1000000 in
theorem equalI_any (g : FuncId) (A B : Option Addr) (n c k : Nat) (R T : Nat → RI) (q : Nat → Bool) (w : World) (r : RnI w A n R) (t : RnI w B n T) (hn : n ≤ 100000) (eg : ∀ args w, (callFunc g args).run Tryz.prog w = .ok (.enter g args) w)
  (hf0 : ∀ (i : Nat) (w' : World), i < n → Ext w w' → Calls Tryz.prog g #[(R i).v, (T i).v] w' fun e w'' => e = .returned (.bool (q i)) ∧ Ext w' w'') :
  Calls Tryz.prog 73 #[.slice A n c, .slice B n k, .func (.func g) #[] #[]] w fun e w' => e = .returned (.bool (allN n q)) ∧ Ext w w' := by
 have HF := Lib.hid hf0; clear hf0
 have R' := Lib.hid r; clear r
 have T' := Lib.hid t; clear t
 obtain ⟨v, hv⟩ : ∃ v, allN n q = v := ⟨_, rfl⟩
 have HV := Lib.hid hv
 rw [hv]
 clear hv
 have g0 : ((n : Int) != (n : Int)) = false := by simp
 go_enter Tryz.func73, Tryz.ntmps73
 go_wp2
 go_loopw [17] (fun s wr => ∃ j : Nat, j ≤ n ∧ s = I j ∧ Ext w wr ∧ Hid (∀ i, i < j → q i = true)) (fun s _ => n - (intOf s).toNat)
 case atStart => exact ⟨0, Nat.zero_le _, rfl, Ext.refl _, fun i hi => absurd hi (by omega)⟩
 case round =>
  obtain ⟨j, hj, rfl, hb, HG⟩ := hrel
  by_cases hlt : j < n
  ·obtain ⟨b, o, rfl, hba, ca⟩ := R'.out.ext hb (by omega)
   obtain ⟨b', o', rfl, hba', ca'⟩ := T'.out.ext hb (by omega)
   obtain ⟨x0, x1, x2, x3, x4, x5⟩ := ca j hlt
   obtain ⟨y0, y1, y2, y3, y4, y5⟩ := ca' j hlt
   have hlt' : (j : Int) < (n : Int) := by omega
   clear ca ca'
   have hc0 := fun w' e => HF.out j w' hlt (hb.trans e)
   generalize R j = x at *
   generalize T j = y at *
   have HC : Hid (∀ w', Ext wr w' → Calls Tryz.prog g #[x.v, y.v] w' fun e w'' => e = .returned (.bool (q j)) ∧ Ext w' w'') := hc0
   clear hc0
   cases hq : q j with
   | false =>
    obtain rfl : v = false := by rw [← HV.out]; exact allN_false.2 ⟨j, hlt, hq⟩
    rw [hq] at HC
    clear hq
    go_wp2_with (go_at_fn g; refine (HC.out _ ((Ext.alloc _ _).trans (Ext.alloc _ _))).mono ?_; rintro e w1 ⟨rfl, hb1⟩; replace hb := Ext.trans hb (((Ext.alloc _ _).trans (Ext.alloc _ _)).trans hb1); clear hb1)
    go_ret
    exact ⟨rfl, hb⟩
   | true =>
    rw [hq] at HC
    have HG2 : Hid (∀ i, i < j + 1 → q i = true) := fun i hi => by
     by_cases h : i = j
     ·subst h; exact hq
     ·exact HG.out i (by omega)
    clear hq
    go_wp2_with (go_at_fn g; refine (HC.out _ ((Ext.alloc _ _).trans (Ext.alloc _ _))).mono ?_; rintro e w1 ⟨rfl, hb1⟩; replace hb := Ext.trans hb (((Ext.alloc _ _).trans (Ext.alloc _ _)).trans hb1); clear hb1)
    go_roundw
    case rel => exact ⟨j + 1, by omega, by go_num, hb, HG2⟩
    case measure => simp [intOf]; omega
  ·obtain rfl : j = n := by omega
   obtain rfl : v = true := by rw [← HV.out]; exact allN_iff.2 HG.out
   go_wp2
   go_ret
   exact ⟨rfl, hb⟩
end
section
open Go Go.RowKit
end
section
open Go Go.RowKit
end
section
open Go Go.RowKit
set_option maxRecDepth 100000 in
set_option maxHeartbeats 1000000 in
theorem rvalue_any (n e : Int) (w : World) (h1 : -2147483648 < n) (h2 : n < 2147483648) (h3 : -62 ≤ e) (h4 : e ≤ 30) :
  Calls Tryz.prog 37 #[.agg #[I n, I e]] w (DyRes (nmS n e) w) := by
 obtain ⟨X0, X2, XE⟩ := num_boxes w (I n) (I e) (.bool false) (.slice none 0 0) (I 0) 77 56
 have HX0 := Lib.hid X0; have HX2 := Lib.hid X2; have HXE := Lib.hid XE; have XE2 := Lib.hid (XE.trans (Ext.drew _))
 clear X0 X2 XE
 obtain ⟨⟨k0, k1⟩, kf⟩ := HX0.out
 obtain ⟨d', hd'⟩ : ∃ d', nmS n e = d' := ⟨_, rfl⟩
 obtain ⟨l1, l2⟩ := nmS_len h1 h2 h4
 have wf' := nmS_ok n e
 rw [hd'] at l2 wf' ⊢
 have HL := Lib.hid l1; have HL2 := Lib.hid l2; have HW := Lib.hid (ofI_ok n 0); have HW2 := Lib.hid wf'
 have HD' := Lib.hid hd'
 clear hd' l1 l2 wf'
 have hn2 : ¬ w.heap.size + 1 = w.heap.size := by omega
 have hn3 : ¬ w.heap.size = w.heap.size + 1 := by omega
 go_enter Tryz.func37, Tryz.ntmps37
 go_upto_region 1 with fail
 go_region_held3 (fun w' => w'.cell? ⟨w.heap.size, 0, none⟩ = some (I n) ∧ w'.cell? ⟨w.heap.size, 1, none⟩ = some (I e)) (go_keep)
  (first
   | (go_at_call 27; refine (rof_any n _ (by omega) (by omega)).mono ?_; rintro e5 w5 ⟨A5, c5, rfl, hon5, hx5⟩; obtain ⟨⟨q0, q1⟩, _⟩ := HX0.out.ext (w' := w5) ((Ext.drew _).trans hx5); have HDN := Lib.hid (dy_of_on hon5 HW.out HL.out (Ext.refl _)); clear hon5)
   | (go_at_call 24; refine (rshift_any2 e HDN.out (by omega) (by omega)).mono ?_; rw [show shiftD (ofI n 0) e = d' from HD'.out]; rintro e6 w6 ⟨A6, c6, rfl, hon6, hx6⟩; obtain ⟨⟨p0, p1⟩, _⟩ := HX0.out.ext (w' := w6) (((Ext.drew _).trans hx5).trans hx6); have gz := (HX2.out.ext (w' := w6) (((Ext.drew _).trans hx5).trans hx6)).2; obtain ⟨z0, z1, z2⟩ := (HX2.out.ext (w' := w6) (((Ext.drew _).trans hx5).trans hx6)).1; have HO6 := Lib.hid hon6; clear hon6))
 all_goals
  have HXF := Lib.hid (((HXE.out.trans (Ext.drew _)).trans hx5).trans hx6)
  have hsz5 := (XE2.out.trans hx5).size
  have hlt := (HX2.out.ext (w' := w5) ((Ext.drew _).trans hx5)).lt
  go_wp2_with fail
  refine bodyPost_ret (v := dv d'.neg A6 (len d'.m) c6 d'.den) (by simp [results, Tryz.results37, go_sem, z0, z1, z2]) rfl ⟨A6, c6, rfl, ?_, ?_⟩
  ·exact (HO6.out.set3 hlt _ _ _).mono hsz5
  ·exact ext_set3 HXF.out (by omega) _ _ _
set_option maxRecDepth 100000 in
set_option maxHeartbeats 1000000 in
theorem rlong_any {w : World} {r : RN} {d : DV} (h : Cn w r d) : Calls Tryz.prog 126 #[r.v] w fun e w' => e = .returned (.bool (lng d)) ∧ Ext w w' := by
 obtain ⟨neg, A, n, c, den⟩ := r
 show Calls _ _ #[dv neg A n c den] _ _
 have hden : den = d.den := h.den
 obtain ⟨W1, hW1⟩ : ∃ W1, W1 = w.alloc (.cells #[.bool neg, .slice A n c, I den] 56) := ⟨_, rfl⟩
 have hE : Ext w W1 := by rw [hW1]; exact Ext.alloc _ _
 obtain ⟨y, hy⟩ : ∃ y : Int, (bitsN d.m : Int) = y := ⟨_, rfl⟩
 have hdy := h.dy
 have HBT : Hid (∀ w', Ext W1 w' → Calls Tryz.prog 178 #[dv neg A n c den] w' fun e w'' => e = .returned (I y) ∧ Ext w' w'') := fun w' e => by
  rw [← hy]; exact rbits_any (hdy.ext (hE.trans e))
 have hb0 : Bx W1 w.heap.size (.bool neg) (.slice A n c) (I den) := by
  rw [hW1]; exact Bx.new w (.bool neg) (.slice A n c) (I den) 56
 have HE := Lib.hid hE
 have hlt0 := hb0.lt
 obtain ⟨⟨k0, k1, k2⟩, _⟩ := hb0
 obtain ⟨bb, hbb⟩ : ∃ bb, lng d = bb := ⟨_, rfl⟩
 have hmx : decide (4096 < max y den) = bb := (lng_max d y den hy hden.symm).trans hbb
 rw [hbb]
 have hb : Ext W1 W1 := Ext.refl _
 clear hE hy h hdy hden hbb
 go_enter Tryz.func126, Tryz.ntmps126
 go_upto_region 1 with fail
 rw [← hW1]; clear hW1
 have hL := fun (x : Later _) => (Ext.trans hb x.ext).old.1
 refine wp_region_later (by kernel_rfl) (by kernel_rfl) ?_
 repeat (go_big_quiet_step (((go_at_call 178; exact Calls.later (HBT.out _ (Later.ext _))))))
 refine wpQuiet_nil ?_
 intro w2 hw2
 replace hb := Ext.trans hb (Later.of hw2)
 clear hw2 hL
 obtain ⟨hc, hf⟩ := hb.old
 have HBB := Lib.hid hb
 clear hb
 go_wp2_with fail
 go_ret
 exact ⟨rfl, HE.out.trans HBB.out⟩
set_option maxRecDepth 100000 in
set_option maxHeartbeats 1000000 in
theorem rport_any (q : Prt) (n : Int) (w : World) (h1 : -9223372036854775808 ≤ n) (h2 : n ≤ 9223372036854775807) (h3 : 0 ≤ q.fr) (h4 : q.fr ≤ 30) :
  Calls Tryz.prog 94 #[.agg #[I q.lo, I q.hi, I q.fr], I n] w (DyRes (prtV q n) w) := by
 obtain ⟨lo, hi, fr⟩ := q
 simp only at h3 h4
 show Calls _ _ #[.agg #[I lo, I hi, I fr], I n] _ (DyRes (nmS n (-fr)) w)
 obtain ⟨e, he⟩ : ∃ e, -fr = e := ⟨_, rfl⟩
 have hng : IntKind.i64.wrap (-fr) = e := by rw [← he]; exact IntWalk.i64_in _ (by omega)
 have h5 : -30 ≤ e ∧ e ≤ 0 := by omega
 rw [he]
 clear he
 obtain ⟨W1, hW1⟩ : ∃ W1, W1 = (w.alloc (.cells #[I lo, I hi, I fr] 82)).alloc (.cells #[.bool false, .slice none 0 0, I 0] 56) := ⟨_, rfl⟩
 have hE : Ext w W1 := by rw [hW1]; exact (Ext.alloc _ _).trans (Ext.alloc _ _)
 have hb1 : Bx W1 (w.heap.size + 1) (.bool false) (.slice none 0 0) (I 0) := by
  rw [hW1]; have := Bx.new (w.alloc (.cells #[I lo, I hi, I fr] 82)) (.bool false) (.slice none 0 0) (I 0) 56
  rwa [show (w.alloc (.cells #[I lo, I hi, I fr] 82)).heap.size = w.heap.size + 1 by simp] at this
 have hb0 : Bx W1 w.heap.size (I lo) (I hi) (I fr) := by
  rw [hW1]; exact (Bx.new w (I lo) (I hi) (I fr) 82).ext (Ext.alloc _ _)
 have HB1 := Lib.hid hb1; have HE := Lib.hid hE
 have hz1 : W1.heap.size = w.heap.size + 1 + 1 := by rw [hW1]; simp
 have HS : Hid (∀ w', Ext W1 w' → w'.cell? ⟨w.heap.size, 2, none⟩ = some (I fr)) := fun w' x => (hb0.ext x).1.2.2
 have k2 := HS.out _ (Ext.refl _)
 obtain ⟨d', hd'⟩ : ∃ d', nmS n e = d' := ⟨_, rfl⟩
 have HD' : Hid (shiftD (ofI n 0) e = d') := hd'
 have HOF : Hid (∀ w', Calls Tryz.prog 27 #[I n] w' (DyRes (ofI n 0) w')) := fun w' => rof_any n w' h1 h2
 have HB : Hid ((ofI n 0).ok ∧ len (ofI n 0).m ≤ 16777216) := ⟨ofI_ok _ _, Nat.le_trans (len_mk _ _ _) (Nat.le_trans (len_abs h1 h2) (by omega))⟩
 rw [hd']
 have n5 : ¬ w.heap.size = w.heap.size + 1 := by omega
 have n6 : ¬ w.heap.size + 1 = w.heap.size := by omega
 clear hb1 hb0 hE hd'
 go_enter Tryz.func94, Tryz.ntmps94
 go_upto_region 1 with fail
 rw [← hW1]; clear hW1
 go_region_held3 (fun w' => w'.cell? ⟨w.heap.size, 2, none⟩ = some (I fr)) (first | exact HS.out _ ex2 | (rw [cell_far3 (by omega)]; assumption))
  (first
   | (go_at_call 27; (with_reducible refine (HOF.out _).mono ?_); rintro e5 w5 hr; obtain ⟨A5, c5, rfl, cn5, _, hx5⟩ := hr.cn HB.out.1 HB.out.2; have CN5 := Lib.hid cn5; have HX5 := Lib.hid (show Ext W1 w5 from ex2); clear hr cn5)
   | (go_at_call 24; refine (rshift_any2 e CN5.out.dy (by omega) (by omega)).mono ?_; rw [HD'.out]; rintro e6 w6 ⟨A2, c2, rfl, hon, hx2⟩; have HO := Lib.hid hon; have HX6 := Lib.hid (HX5.out.trans hx2); have p0 := HS.out _ HX6.out; obtain ⟨⟨r0, r1, r2⟩, rf⟩ := HB1.out.ext HX6.out; have f0 := rf 0; have f1 := rf 1; have f2 := rf 2; have hsz := HX5.out.size; clear rf hon))
 all_goals
  go_wp2_with fail
  exact bodyPost_ret (v := dv d'.neg A2 (len d'.m) c2 d'.den) (by simp [results, Tryz.results94, go_sem, r0, r1, r2]) rfl (DyRes.end3 rfl HO.out (HE.out.trans HX6.out) (by omega) (by omega) (by omega))
end
section
open Go Go.RowKit
end
section
open Go Go.RowKit
attribute [local go_sem ↓] Go.wp_at_zero Go.wp_at_succ
theorem CnI.v_eq {w : World} {r : RI} {x : IV} (h : CnI w r x) : r.v = ivd x.lo r.lo.A r.lo.c x.hi r.hi.A r.hi.c := by
 show iv r.lo.neg r.lo.A r.lo.n r.lo.c r.lo.den r.hi.neg r.hi.A r.hi.n r.hi.c r.hi.den = _
 rw [h.lo.neg, h.lo.n, h.lo.den, h.hi.neg, h.hi.n, h.hi.den]
theorem same_ri {w : World} {r s : RI} {x : IV} (h : CnI w r x) (k : CnI w s x) : Calls Tryz.prog 40 #[r.v, s.v] w fun e w' => e = .returned (.bool true) ∧ Ext w w' := by
 rw [h.v_eq, k.v_eq]
 exact isame_true h.lo.rd h.hi.rd k.lo.rd k.hi.rd (Nat.le_trans h.el (by decide)) (Nat.le_trans h.eh (by decide))
set_option maxRecDepth 100000 in
set_option maxHeartbeats 1000000 in
theorem rSameI_any {w : World} {A B : Option Addr} {n c k : Nat} {R T : Nat → RI} {V : Nat → IV} (h : LnI w A n R V) (t : LnI w B n T V) (hn : n ≤ 100000) : Calls Tryz.prog 20 #[.slice A n c, .slice B n k] w fun e w' => e = .returned (.bool true) ∧ Ext w w' := by
 have H := Lib.hid h; have T' := Lib.hid t; clear h t
 have g0 : ((n : Int) != (n : Int)) = false := by simp
 go_enter Tryz.func20, Tryz.ntmps20
 go_wp2
 go_loopw [13] (fun s wr => ∃ j : Nat, j ≤ n ∧ s = I j ∧ Ext w wr) (fun s _ => n - (intOf s).toNat)
 case atStart => exact ⟨0, Nat.zero_le _, rfl, Ext.refl _⟩
 case round =>
  obtain ⟨j, hj, rfl, hx⟩ := hrel
  by_cases hlt : j < n
  ·obtain ⟨bs, os, rfl, hbs, hcs⟩ := H.out.rn.ext hx (by omega)
   obtain ⟨bt, ot, rfl, hbt, hct⟩ := T'.out.rn.ext hx (by omega)
   obtain ⟨x0, x1, x2, x3, x4, x5⟩ := hcs j hlt
   obtain ⟨y0, y1, y2, y3, y4, y5⟩ := hct j hlt
   have hlt' : (j : Int) < (n : Int) := by omega
   have cr := (H.out.el j hlt).ext hx
   have ct := (T'.out.el j hlt).ext hx
   have HS : Hid (∀ w', Ext wr w' → Calls Tryz.prog 40 #[(R j).v, (T j).v] w' fun e w'' => e = .returned (.bool true) ∧ Ext w' w'') := fun w' e => same_ri (cr.ext e) (ct.ext e)
   have hb : Ext wr wr := Ext.refl _
   clear hcs hct cr ct
   generalize R j = rj at *
   generalize T j = tj at *
   go_upto_region 6 with fail
   have hL := fun (x : Later _) => (Ext.trans hb x.ext).old.1
   refine wp_region_later (by kernel_rfl) (by kernel_rfl) ?_
   repeat (go_big_quiet_step ((go_at_call 40; with_reducible exact Calls.later (HS.out _ (Later.ext _)))))
   refine wpQuiet_nil ?_
   intro w2 hw2
   replace hb := Ext.trans hb (Later.of hw2)
   clear hw2 hL
   obtain ⟨hc, hf⟩ := hb.old
   go_wp2_with fail
   go_roundw
   case rel => exact ⟨j + 1, by omega, by go_num, hx.trans hb⟩
   case measure => simp [intOf]; omega
  ·obtain rfl : j = n := by omega
   go_wp2
   go_ret
   exact ⟨rfl, hx⟩
set_option maxRecDepth 100000 in
set_option maxHeartbeats 1000000 in
theorem rlongI_any {w : World} {r : RI} {x : IV} (h : CnI w r x) : Calls Tryz.prog 62 #[r.v] w fun e w' => e = .returned (.bool (lngI x)) ∧ Ext w w' := by
 have HL : Hid (∀ w', Ext w w' → Calls Tryz.prog 126 #[r.lo.v] w' fun e w'' => e = .returned (.bool (lng x.lo)) ∧ Ext w' w'') := fun w' e => rlong_any (h.lo.ext e)
 have HH : Hid (∀ w', Ext w w' → Calls Tryz.prog 126 #[r.hi.v] w' fun e w'' => e = .returned (.bool (lng x.hi)) ∧ Ext w' w'') := fun w' e => rlong_any (h.hi.ext e)
 unfold lngI
 clear h
 generalize lng x.lo = b1 at *
 generalize lng x.hi = b2 at *
 obtain ⟨⟨n1, A1, k1, c1, d1⟩, ⟨n2, A2, k2, c2, d2⟩⟩ := r
 show Calls _ _ #[iv n1 A1 k1 c1 d1 n2 A2 k2 c2 d2] _ _
 have X1 := Lib.hid (B6.new w (.bool n1) (.slice A1 k1 c1) (I d1) (.bool n2) (.slice A2 k2 c2) (I d2) 58)
 have X0 := Lib.hid (Ext.alloc w (.cells #[.bool n1, .slice A1 k1 c1, I d1, .bool n2, .slice A2 k2 c2, I d2] 58))
 obtain ⟨⟨a0, a1, a2, a3, a4, a5⟩, _⟩ := X1.out
 generalize hW : w.alloc (.cells #[.bool n1, .slice A1 k1 c1, I d1, .bool n2, .slice A2 k2 c2, I d2] 58) = W0 at *
 cases b1 with
 | true =>
  go_enter Tryz.func62, Tryz.ntmps62
  go_upto_region 1 with fail
  (try rw [hW])
  clear hW
  go_wp2_with (go_at_call 126; (with_reducible refine (HL.out _ X0.out).mono ?_); rintro e w1 ⟨rfl, hx⟩; have Y1 := Lib.hid hx; clear hx)
  go_ret
  exact ⟨by simp, X0.out.trans Y1.out⟩
 | false =>
  go_enter Tryz.func62, Tryz.ntmps62
  go_upto_region 1 with fail
  (try rw [hW])
  clear hW
  go_wp2_with (first
   | (have hg := Y1; clear hg; go_at_call 126; (with_reducible refine (HH.out _ (X0.out.trans Y1.out)).mono ?_); rintro e w2 ⟨rfl, hx⟩; have Y2 := Lib.hid (Y1.out.trans hx); clear hx)
   | (go_at_call 126; (with_reducible refine (HL.out _ X0.out).mono ?_); rintro e w1 ⟨rfl, hx⟩; have Y1 := Lib.hid hx; clear hx a0 a1 a2 a3 a4 a5; obtain ⟨⟨a0, a1, a2, a3, a4, a5⟩, _⟩ := X1.out.ext Y1.out))
  go_ret
  exact ⟨by simp, X0.out.trans Y2.out⟩
end
section
open Go Go.RowKit
attribute [local go_sem ↓] Go.wp_at_zero Go.wp_at_succ
theorem DyRes.fr {d : DV} {w : World} {e : Ending} {w' : World} (h : DyRes d w e w') (ok : d.ok) (hl : len d.m ≤ 16777216) : ∃ A c, e = .returned (dv d.neg A (len d.m) c d.den) ∧ Fr w' w.heap.size A (len d.m) c (dg d.m) ∧ Ext w w' := by
 obtain ⟨A, c, he, cn, nw, hx⟩ := h.cn ok hl
 exact ⟨A, c, he, ⟨cn.rd, cn.sl, fun _ a ha => nw a ha⟩, hx⟩
set_option maxRecDepth 100000 in
set_option maxHeartbeats 4000000 in
theorem rPortI_any (q : Prt) (w : World) (h1 : -9223372036854775808 ≤ q.lo) (h2 : q.lo ≤ 9223372036854775807) (h3 : -9223372036854775808 ≤ q.hi) (h4 : q.hi ≤ 9223372036854775807) (h5 : 0 ≤ q.fr) (h6 : q.fr ≤ 30)
  (s1 : (prtV q q.lo).ok ∧ len (prtV q q.lo).m ≤ 16777216) (s2 : (prtV q q.hi).ok ∧ len (prtV q q.hi).m ≤ 16777216) :
  Calls Tryz.prog 35 #[.agg #[I q.lo, I q.hi, I q.fr]] w (IvRes (prtV q q.lo) (prtV q q.hi) w) := by
 have HA : Hid (∀ w', Calls Tryz.prog 94 #[.agg #[I q.lo, I q.hi, I q.fr], I q.lo] w' fun e w'' => ∃ A c, e = .returned (dv (prtV q q.lo).neg A (len (prtV q q.lo).m) c (prtV q q.lo).den) ∧ Fr w'' w'.heap.size A (len (prtV q q.lo).m) c (dg (prtV q q.lo).m) ∧ Ext w' w'') := fun w' => (rport_any q q.lo w' h1 h2 h5 h6).mono fun e w'' h => h.fr s1.1 s1.2
 have HB : Hid (∀ w', Calls Tryz.prog 94 #[.agg #[I q.lo, I q.hi, I q.fr], I q.hi] w' fun e w'' => ∃ A c, e = .returned (dv (prtV q q.hi).neg A (len (prtV q q.hi).m) c (prtV q q.hi).den) ∧ Fr w'' w'.heap.size A (len (prtV q q.hi).m) c (dg (prtV q q.hi).m) ∧ Ext w' w'') := fun w' => (rport_any q q.hi w' h3 h4 h5 h6).mono fun e w'' h => h.fr s2.1 s2.2
 generalize prtV q q.lo = u at *
 generalize prtV q q.hi = v at *
 obtain ⟨pl, ph, pf⟩ := q
 simp only at HA HB ⊢
 clear h1 h2 h3 h4 h5 h6 s1 s2
 obtain ⟨W1, hW1⟩ : ∃ W1, W1 = (w.alloc (.cells #[I pl, I ph, I pf] 82)).alloc (.cells #[.bool false, .slice none 0 0, I 0, .bool false, .slice none 0 0, I 0] 58) := ⟨_, rfl⟩
 have hE : Ext w W1 := by rw [hW1]; exact (Ext.alloc _ _).trans (Ext.alloc _ _)
 have hs : St W1 w.heap.size (I pl) (I ph) (I pf) := by rw [hW1]; exact (St.new w _ _ _ _).ext (Ext.alloc _ _)
 have hb1 : B6 W1 (w.heap.size + 1) (.bool false) (.slice none 0 0) (I 0) (.bool false) (.slice none 0 0) (I 0) := by
  rw [hW1]; have := B6.new (w.alloc (.cells #[I pl, I ph, I pf] 82)) (.bool false) (.slice none 0 0) (I 0) (.bool false) (.slice none 0 0) (I 0) 58
  rwa [show (w.alloc (.cells #[I pl, I ph, I pf] 82)).heap.size = w.heap.size + 1 by simp] at this
 have hz : W1.heap.size = w.heap.size + 1 + 1 := by rw [hW1]; simp
 have HE := Lib.hid hE; have HB1 := Lib.hid hb1
 have HS : Hid (∀ w', Ext W1 w' → w'.cell? ⟨w.heap.size, 0, none⟩ = some (I pl) ∧ w'.cell? ⟨w.heap.size, 1, none⟩ = some (I ph) ∧ w'.cell? ⟨w.heap.size, 2, none⟩ = some (I pf)) := fun w' e => hs.ext e
 obtain ⟨k0, k1, k2⟩ := hs
 clear hE hb1
 go_enter Tryz.func35, Tryz.ntmps35
 go_upto_region 1 with fail
 rw [← hW1]; clear hW1
 go_region_held3 (fun w' => w'.cell? ⟨w.heap.size, 0, none⟩ = some (I pl) ∧ w'.cell? ⟨w.heap.size, 1, none⟩ = some (I ph) ∧ w'.cell? ⟨w.heap.size, 2, none⟩ = some (I pf)) (first | exact HS.out _ ex2 | (refine ⟨?_, ?_, ?_⟩ <;> (rw [cell_far6' (by omega)]; assumption)))
  (first
  | (go_at_call 94; (with_reducible refine (HA.out _).mono ?_); rintro e1 w3 ⟨A3, c3, rfl, fa, h3⟩; have FA := Lib.hid fa; have hx3 : Ext W1 w3 := ex2; have HXA := Lib.hid hx3; clear fa; obtain ⟨k0, k1, k2⟩ := HS.out w3 hx3; obtain ⟨⟨r0, r1, r2, r3, r4, r5⟩, rf⟩ := HB1.out.ext hx3; have f0 := rf 0; have f1 := rf 1; have f2 := rf 2; have f3 := rf 3; have f4 := rf 4; have f5 := rf 5; clear rf)
  | (go_at_call 94; (with_reducible refine (HB.out _).mono ?_); rintro e1 w4 ⟨A4, c4, rfl, fb, h4⟩; have FB := Lib.hid fb; have hx4 : Ext W1 w4 := ex2; have HXB := Lib.hid hx4; clear fb; obtain ⟨k0, k1, k2⟩ := HS.out w4 hx4; obtain ⟨⟨r0, r1, r2, r3, r4, r5⟩, rf⟩ := HB1.out.ext hx4; have f0 := rf 0; have f1 := rf 1; have f2 := rf 2; have f3 := rf 3; have f4 := rf 4; have f5 := rf 5; clear rf))
 all_goals
  have hs3 := HXA.out.size
  have hs4 := HXB.out.size
  go_wp2_with fail
  first
  | exact bodyPost_ret (v := ivd u A3 c3 v A4 c4) (by simp [results, Tryz.results35, go_sem, r0, r1, r2, r3, r4, r5]) rfl (IvRes.end6 rfl (FA.out.ext (show Ext w3 w4 from ex2)) FB.out (HE.out.trans HXB.out) (by omega) (by first | omega | (simp; done) | (simp; omega) | fail "no") (by first | omega | (simp; done) | (simp; omega) | fail "no"))
  | exact bodyPost_ret (v := ivd u A3 c3 v A4 c4) (by simp [results, Tryz.results35, go_sem, r0, r1, r2, r3, r4, r5]) rfl (IvRes.end6 rfl FA.out (FB.out.ext (show Ext w4 w3 from ex2)) (HE.out.trans HXA.out) (by omega) (by first | omega | (simp; done) | (simp; omega) | fail "no") (by first | omega | (simp; done) | (simp; omega) | fail "no"))
  | fail "no"
end
end Go.Proofs.YtgnngldlgcdnfaaGreatDoor
