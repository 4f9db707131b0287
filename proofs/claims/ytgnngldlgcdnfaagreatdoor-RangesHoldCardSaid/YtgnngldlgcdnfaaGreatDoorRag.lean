import Derived.Test.YtgnngldlgcdnfaaGreatDoorRaf
import Derived.Test.YtgnngldlgcdnfaaGreatDoorQah
import Derived.Test.YtgnngldlgcdnfaaGreatDoorQaq
import Derived.Test.YtgnngldlgcdnfaaGreatDoorQao
import Derived.Test.YtgnngldlgcdnfaaGreatDoorQae
import Derived.Test.YtgnngldlgcdnfaaGreatDoorQak
import Derived.Test.YtgnngldlgcdnfaaGreatDoorQax
import Derived.Test.YtgnngldlgcdnfaaGreatDoorQal
import Derived.Deep.RegionHeld3
import Derived.Test.YtgnngldlgcdnfaaGreatDoorQan
import Derived.Deep.AppendLies
namespace Go.Proofs.YtgnngldlgcdnfaaGreatDoor
section
open Go Go.RowKit
attribute [local go_sem ↓] Go.wp_at_zero Go.wp_at_succ
def hulI (x y : IV) : IV := ⟨lo4 x.lo x.hi y.lo y.hi, hi4 x.lo x.hi y.lo y.hi⟩
def rdI (x : IV) : IV := ⟨floorD x.lo 64, ceilD x.hi 64⟩
def nxI (D : Dia) (S : Nat → IV) (k : Nat) : IV := rdI (hulI (S k) (tkI D S (sdI D k)))
theorem hul_sh {x y : IV} (hx : ShI x) (hy : ShI y) : ShI (hulI x y) :=
 ⟨shr_min (shr_min (shr_min hx.1 hx.2.1) hy.1) hy.2.1, shr_max (shr_max (shr_max hx.1 hx.2.1) hy.1) hy.2.1, (gd_four hx.1.end_ hx.2.1.end_ hy.1.end_ hy.2.1.end_).2.2⟩
theorem IvOk.cn {a b : DV} {w : World} {e : Ending} {w' : World} (h : IvOk a b w e w') (ha : End a) (hb : End b) (hle : a.q ≤ b.q) :
  ∃ rr : RI, e = .returned (.tuple #[rr.v, .nilIface]) ∧ CnI w' rr ⟨a, b⟩ ∧ NwI w.heap.size rr ⟨a, b⟩ ∧ Ext w w' := by
 obtain ⟨A, c, B, k, he, h1, h2, h3⟩ := h
 exact ⟨ciR ⟨a, b⟩ A c B k, he, ⟨Cn.of h1.rd h1.ok ha.1 (Nat.le_trans ha.2 (by decide)), Cn.of h2.rd h2.ok hb.1 (Nat.le_trans hb.2 (by decide)), ha.2, hb.2, hle⟩, ⟨h1.2.2, h2.2.2⟩, h3⟩
theorem rd_gd {x : IV} (h : ShI x) : GdI (rdI x) := by
 have l1 := lim_floor x.lo 64; have l2 := lim_ceil x.hi 64
 have e1 := h.1.len; have e2 := h.2.1.len
 refine ⟨⟨floorD_ok h.1.ok 64, by show len (floorD x.lo 64).m ≤ _; omega⟩, ⟨negD_ok _, by show len (ceilD x.hi 64).m ≤ _; omega⟩, ?_⟩
 have f1 := (floor_q h.1.ok 64 (by decide)).1
 have f2 := (floor_q (negD_ok x.hi) 64 (by decide)).1
 have e3 : (ceilD x.hi 64).q = -(floorD (negD x.hi) 64).q := q_negD (floorD_ok (negD_ok _) 64)
 have e4 : (negD x.hi).q = -x.hi.q := q_negD h.2.1.ok
 have := h.2.2
 show (floorD x.lo 64).q ≤ (ceilD x.hi 64).q
 grind
theorem ev_short {D : Dia} {n : Nat} {b : Nat → Bool} {S : Nat → IV} (hz : evE D n b S = 0) {k : Nat} (hk : k < n) : lngI (S k) = false := by
 obtain ⟨hn, _, hl⟩ := evE_good hz
 cases h : lngI (S k) with
 | false => rfl
 | true =>
  have := tkH_del (S := S) (by omega : k < (delL D).length) h
  unfold tkH at this
  obtain ⟨i, hi, hb⟩ := allN_false.1 this
  rw [hl i hi] at hb; cases hb
def RoP (D : Dia) (n : Nat) (b : Nat → Bool) (S : Nat → IV) (w : World) (e : Ending) (w' : World) : Prop :=
 (evE D n b S ≠ 0 ∧ e = .returned (.tuple #[.slice none 0 0, .iface 48 (I (evE D n b S))]) ∧ Ext w w') ∨
 (evE D n b S = 0 ∧ ∃ g R, e = .returned (.tuple #[.slice (some ⟨g, 0, none⟩) n n, .nilIface]) ∧ BuI w w' g n R (nxI D S))
set_option maxRecDepth 100000 in
set_option maxHeartbeats 1000000 in
theorem round_bad {w : World} {D : Dia} {p : Pl} {Ao Ad As Ai : Option Addr} {lo ld co cd ns' cs n ci : Nat} {R : Nat → RI} {S : Nat → IV} {b : Nat → Bool} (d : Dm w D p) (ok : OkD D) (hT : Tabs w) (hld : (delL D).length = ld) (hlo : (ordL D).length = lo)
  (rd : Rl w Ad cd (delL D)) (ro : Rl w Ao co (ordL D)) (rs : RnI w Ai n R) (el : ∀ k, k < n → ElI w (R k) (S k) (b k)) (hz : evE D n b S ≠ 0) :
  Calls Tryz.prog 72 #[anv D p Ao lo co Ad ld cd As ns' cs, .slice Ai n ci] w fun e w' => e = .returned (.tuple #[.slice none 0 0, .iface 48 (I (evE D n b S))]) ∧ Ext w w' := by
 have HV : Hid (∀ w', Ext w w' → Calls Tryz.prog 55 #[anv D p Ao lo co Ad ld cd As ns' cs, .slice Ai n ci] w' (fun e w'' => e = .returned (.tuple #[.slice none 0 0, .iface 48 (I (evE D n b S))]) ∧ Ext w' w'')) := fun w' e => (evaluate_any (d.ext e) ok (hT.ext e) hld hlo (rd.ext e) (ro.ext e) (rs.ext e) fun k hk => (el k hk).ext e).mono fun e w'' hh => by
  rcases hh with ⟨_, h2, h3⟩ | ⟨h1, _⟩
  ·exact ⟨h2, h3⟩
  ·exact absurd h1 hz
 clear hz d ok hT hld hlo rd ro rs el
 generalize evE D n b S = cd0 at *
 go_enter Tryz.func72, Tryz.ntmps72
 go_wp2_with (go_at_call 55; (with_reducible refine (HV.out _ (Ext.alloc _ _)).mono ?_); rintro e2 w2 ⟨rfl, hr⟩; have HR := Lib.hid ((Ext.alloc _ _).trans hr); clear hr)
 go_ret2
 exact ⟨rfl, HR.out⟩
set_option maxRecDepth 100000 in
set_option maxHeartbeats 8000000 in
theorem round_ok {w : World} {D : Dia} {p : Pl} {Ao Ad As Ai : Option Addr} {lo co cd ns' cs n ci : Nat} {R : Nat → RI} {S : Nat → IV} {b : Nat → Bool} (d : Dm w D p) (ok : OkD D) (hT : Tabs w) (hlo : (ordL D).length = lo)
  (rd : Rl w Ad cd (delL D)) (ro : Rl w Ao co (ordL D)) (rs : RnI w Ai n R) (el : ∀ k, k < n → ElI w (R k) (S k) (b k)) (hz : evE D n b S = 0) :
  Calls Tryz.prog 72 #[anv D p Ao lo co Ad n cd As ns' cs, .slice Ai n ci] w fun e w' => ∃ g R, e = .returned (.tuple #[.slice (some ⟨g, 0, none⟩) n n, .nilIface]) ∧ BuI w w' g n R (nxI D S) := by
 obtain ⟨hn, hbt, hl⟩ := evE_good hz
 have HCN : Hid (∀ k, k < n → CnI w (R k) (S k)) := fun k hk => (el k hk).cn (hbt k hk)
 have HSH : Hid (∀ k, k < n → ShI (S k)) := fun k hk => (HCN.out k hk).gd.sh (ev_short hz hk)
 have HLG := Lib.hid hl
 have HV2 : Hid (∀ w', Ext w w' → Calls Tryz.prog 55 #[anv D p Ao lo co Ad n cd As ns' cs, .slice Ai n ci] w' (fun e w'' => ∃ g R, e = .returned (.tuple #[.slice (some ⟨g, 0, none⟩) D.nb D.nb, .nilIface]) ∧ BuI w' w'' g D.nb R (tkI D S))) := fun w' e => (evaluate_any (d.ext e) ok (hT.ext e) hn.symm hlo (rd.ext e) (ro.ext e) (rs.ext e) fun k hk => (el k hk).ext e).mono fun e w'' hh => by
  rcases hh with ⟨h1, _⟩ | ⟨_, h2⟩
  ·exact absurd hz h1
  ·exact h2
 have HSR : Hid (∀ w' (j : Nat), Ext w w' → j < n → Calls Tryz.prog 56 #[anv D p Ao lo co Ad n cd As ns' cs, I j] w' (fun e w'' => e = .returned (I (sdI D j)) ∧ Ext w' w'')) := fun w' j e hj => rsource_any (d.ext e) ok (rd.ext e) hn.symm hj
 have HSL : Hid (∀ j, j < n → sdI D j < D.nb) := fun j hj => sdI_lt ok (by omega)
 have hnm : n ≤ 100000 := by have := del_le D; have := ok.nb; omega
 have HRS := Lib.hid rs; have HT := Lib.hid hT
 have hmk := fun w => run_makeI w n hnm
 obtain ⟨W1, hW1⟩ : ∃ W1, W1 = w.alloc (.cells #[.slice p.AI D.ni p.cI, .slice p.AB D.nb p.cB, .slice p.AO D.no p.cO, .slice Ao lo co, .slice Ad n cd, .slice As ns' cs] 102) := ⟨_, rfl⟩
 have hE : Ext w W1 := by rw [hW1]; exact Ext.alloc _ _
 have HB : Hid (B6A W1 w.heap.size D p Ao lo co Ad n cd As ns' cs) := by show B6A _ _ _ _ _ _ _ _ _ _ _ _ _; rw [hW1]; exact B6.new _ _ _ _ _ _ _ _
 have HE := Lib.hid hE
 obtain ⟨⟨c0, c1, c2, c3, c4, c5⟩, _⟩ := HB.out
 clear d ok hlo rs el hz hbt hn hl rd ro hT hE
 go_enter Tryz.func72, Tryz.ntmps72
 go_upto_region 1 with fail
 rw [← hW1]; clear hW1
 go_upto_region 5 with (go_at_call 55; (with_reducible refine (HV2.out _ HE.out).mono ?_); rintro e2 w2 ⟨gr, R2, rfl, hr⟩; have HR := Lib.hid hr; clear hr c0 c1 c2 c3 c4 c5)
 obtain ⟨g, hg⟩ : ∃ g, w2.heap.size = g := ⟨_, rfl⟩
 obtain ⟨wz, hwz⟩ : ∃ wz, wz = w2.alloc (.cells (madeCells #[.bool false, .slice none 0 0, I 0, .bool false, .slice none 0 0, I 0] (n * 6)) 58) := ⟨_, rfl⟩
 have HX2 : Hid (Ext W1 w2) := HR.out.ext
 have HM0 : Hid (BuI w wz g n (fun _ => RI.z) (uptoI (nxI D S) 0)) := by
  show BuI _ _ _ _ _ _
  rw [hwz]
  exact (BuI.new _ (HE.out.trans HX2.out) hg.symm).congr fun i _ => by unfold uptoI; rw [if_neg (by omega)]
 have HXZ : Hid (Ext w2 wz) := by show Ext _ _; rw [hwz]; exact Ext.alloc _ _
 have HGR : Hid (gr < g) := by show _ < _; rw [← hg]; exact HR.out.lv.row.lt
 have HGW : Hid (w2.heap.size ≤ g) := by show _ ≤ _; omega
 (try rw [hg])
 rw [← hwz]
 clear hwz hmk hg
 have HL2 := Lib.hid HR.out.lv
 clear HR HV2
 go_wp2_with fail
 go_loopw [24] (fun s wr => ∃ (j : Nat) (R' : Nat → RI), j ≤ n ∧ s = I j ∧ Hid (BuI w wr g n R' (uptoI (nxI D S) j) ∧ Ext w2 wr)) (fun s _ => n - (intOf s).toNat)
 case atStart => exact ⟨0, _, Nat.zero_le _, rfl, HM0.out, HXZ.out⟩
 case round =>
  clear HM0 HXZ
  obtain ⟨j, R', hj, rfl, H⟩ := hrel
  by_cases hlt : j < n
  ·obtain ⟨bs, os, rfl, hbs, hcs⟩ := HRS.out.ext (HE.out.trans (HX2.out.trans H.out.2)) (by omega)
   have hz1 := HB.out.lt; have hz2 := HX2.out.size; have hz3 := HGW.out; have hz4 := HGR.out; have hz5 := HE.out.size
   have hbg : ¬ bs = g := by
    obtain ⟨b', o', e', hb', _⟩ := HRS.out (by omega)
    injection e' with e'; injection e' with e1 e2
    omega
   obtain ⟨x0, x1, x2, x3, x4, x5⟩ := hcs j hlt
   obtain ⟨⟨a0, a1, a2, a3, a4, a5⟩, _⟩ := HB.out.ext (HX2.out.trans H.out.2)
   have hga := (HB.out.ext (HX2.out.trans H.out.2)).lt
   have hag : ¬ w.heap.size = g := by omega
   obtain ⟨q, hq⟩ : ∃ q, sdI D j = q := ⟨_, rfl⟩
   have hqn := HSL.out j hlt
   rw [hq] at hqn
   obtain ⟨r0, r1, r2, r3, r4, r5⟩ := (HL2.out.ext H.out.2).cells hqn
   have hgr := (HL2.out.ext H.out.2).row.lt
   have hrg : ¬ gr = g := by omega
   have hlt' : (j : Int) < (n : Int) := by omega
   have hq' : (q : Int) < (D.nb : Int) := by omega
   have cn := (HCN.out j hlt).ext (HE.out.trans (HX2.out.trans H.out.2))
   have cr := (HL2.out.el q hqn).ext H.out.2
   have sq : ShI (tkI D S q) := cr.gd.sh (HLG.out q hqn)
   obtain ⟨hu, hhu⟩ : ∃ hu, hulI (S j) (tkI D S q) = hu := ⟨_, rfl⟩
   have HU : Hid (ShI hu) := by show ShI _; rw [← hhu]; exact hul_sh (HSH.out j hlt) sq
   have HTr := Lib.hid (HT.out.ext (HE.out.trans (HX2.out.trans H.out.2)))
   have HHU : Hid (∀ w', Ext wr w' → Calls Tryz.prog 140 #[(R j).v, (R2 q).v] w' (IvN hu w')) := fun w' e => by
    rw [← hhu]; exact IvN.of (hull_any (cn.ext e).iw (cr.ext e).iw (HTr.out.ext e)) (hul_sh (HSH.out j hlt) sq).gd
   obtain ⟨yv, hyv⟩ : ∃ yv, rdI hu = yv := ⟨_, rfl⟩
   have HRO : Hid (∀ w' rr, Ext wr w' → CnI w' rr hu → Calls Tryz.prog 139 #[rr.v, I 64] w' (fun e w'' => ∃ r2 : RI, e = .returned (.tuple #[r2.v, .nilIface]) ∧ CnI w'' r2 yv ∧ NwI w'.heap.size r2 yv ∧ Ext w' w'')) := fun w' rr e c => by
    have gd := rd_gd HU.out
    rw [← hyv]
    exact (iround_ok c.iw (HTr.out.ext e) 64 (by decide)).mono fun e w'' hh => hh.cn gd.1 gd.2.1 gd.2.2
   have HC3 : Hid (∀ w', Ext wr w' → Calls Tryz.prog 56 #[anv D p Ao lo co Ad n cd As ns' cs, I j] w' fun e w'' => e = .returned (I q) ∧ Ext w' w'') := fun w' e => by rw [← hq]; exact HSR.out w' j ((HE.out.trans (HX2.out.trans H.out.2)).trans e) hlt
   have HUP : Hid (∀ i, i < n → putI (uptoI (nxI D S) j) j yv i = uptoI (nxI D S) (j + 1) i) := fun i _ => by
    have e1 : nxI D S j = yv := by unfold nxI; rw [hq, hhu, hyv]
    rw [← e1]; exact uptoI_put (nxI D S) j i
   clear hcs hq cn cr sq hhu hyv
   generalize R j = rj at *
   generalize R2 q = rq at *
   have HS : Hid (∀ w', Ext wr w' → (w'.cell? ⟨w.heap.size, 0, none⟩ = some (.slice p.AI D.ni p.cI) ∧ w'.cell? ⟨w.heap.size, 1, none⟩ = some (.slice p.AB D.nb p.cB) ∧ w'.cell? ⟨w.heap.size, 2, none⟩ = some (.slice p.AO D.no p.cO) ∧ w'.cell? ⟨w.heap.size, 3, none⟩ = some (.slice Ao lo co) ∧ w'.cell? ⟨w.heap.size, 4, none⟩ = some (.slice Ad n cd) ∧ w'.cell? ⟨w.heap.size, 5, none⟩ = some (.slice As ns' cs)) ∧ (w'.cell? ⟨bs, os + j * 6, none⟩ = some (.bool rj.lo.neg) ∧ w'.cell? ⟨bs, os + j * 6 + 1, none⟩ = some (.slice rj.lo.A rj.lo.n rj.lo.c) ∧ w'.cell? ⟨bs, os + j * 6 + 2, none⟩ = some (I rj.lo.den) ∧ w'.cell? ⟨bs, os + j * 6 + 3, none⟩ = some (.bool rj.hi.neg) ∧ w'.cell? ⟨bs, os + j * 6 + 4, none⟩ = some (.slice rj.hi.A rj.hi.n rj.hi.c) ∧ w'.cell? ⟨bs, os + j * 6 + 5, none⟩ = some (I rj.hi.den)) ∧ (w'.cell? ⟨gr, q * 6, none⟩ = some (.bool rq.lo.neg) ∧ w'.cell? ⟨gr, q * 6 + 1, none⟩ = some (.slice rq.lo.A rq.lo.n rq.lo.c) ∧ w'.cell? ⟨gr, q * 6 + 2, none⟩ = some (I rq.lo.den) ∧ w'.cell? ⟨gr, q * 6 + 3, none⟩ = some (.bool rq.hi.neg) ∧ w'.cell? ⟨gr, q * 6 + 4, none⟩ = some (.slice rq.hi.A rq.hi.n rq.hi.c) ∧ w'.cell? ⟨gr, q * 6 + 5, none⟩ = some (I rq.hi.den))) := fun w' e =>
    ⟨⟨(e.old.1 _ _ hga).trans a0, (e.old.1 _ _ hga).trans a1, (e.old.1 _ _ hga).trans a2, (e.old.1 _ _ hga).trans a3, (e.old.1 _ _ hga).trans a4, (e.old.1 _ _ hga).trans a5⟩, ⟨(e.old.1 _ _ hbs).trans x0, (e.old.1 _ _ hbs).trans x1, (e.old.1 _ _ hbs).trans x2, (e.old.1 _ _ hbs).trans x3, (e.old.1 _ _ hbs).trans x4, (e.old.1 _ _ hbs).trans x5⟩, ⟨(e.old.1 _ _ hgr).trans r0, (e.old.1 _ _ hgr).trans r1, (e.old.1 _ _ hgr).trans r2, (e.old.1 _ _ hgr).trans r3, (e.old.1 _ _ hgr).trans r4, (e.old.1 _ _ hgr).trans r5⟩⟩
   clear a0 a1 a2 a3 a4 a5 x0 x1 x2 x3 x4 x5 r0 r1 r2 r3 r4 r5
   obtain ⟨⟨a0, a1, a2, a3, a4, a5⟩, ⟨x0, x1, x2, x3, x4, x5⟩, ⟨r0, r1, r2, r3, r4, r5⟩⟩ := HS.out wr (Ext.refl _)
   go_upto_region 8 with fail
   go_region_held3 (fun w' => (w'.cell? ⟨w.heap.size, 0, none⟩ = some (.slice p.AI D.ni p.cI) ∧ w'.cell? ⟨w.heap.size, 1, none⟩ = some (.slice p.AB D.nb p.cB) ∧ w'.cell? ⟨w.heap.size, 2, none⟩ = some (.slice p.AO D.no p.cO) ∧ w'.cell? ⟨w.heap.size, 3, none⟩ = some (.slice Ao lo co) ∧ w'.cell? ⟨w.heap.size, 4, none⟩ = some (.slice Ad n cd) ∧ w'.cell? ⟨w.heap.size, 5, none⟩ = some (.slice As ns' cs)) ∧ (w'.cell? ⟨bs, os + j * 6, none⟩ = some (.bool rj.lo.neg) ∧ w'.cell? ⟨bs, os + j * 6 + 1, none⟩ = some (.slice rj.lo.A rj.lo.n rj.lo.c) ∧ w'.cell? ⟨bs, os + j * 6 + 2, none⟩ = some (I rj.lo.den) ∧ w'.cell? ⟨bs, os + j * 6 + 3, none⟩ = some (.bool rj.hi.neg) ∧ w'.cell? ⟨bs, os + j * 6 + 4, none⟩ = some (.slice rj.hi.A rj.hi.n rj.hi.c) ∧ w'.cell? ⟨bs, os + j * 6 + 5, none⟩ = some (I rj.hi.den)) ∧ (w'.cell? ⟨gr, q * 6, none⟩ = some (.bool rq.lo.neg) ∧ w'.cell? ⟨gr, q * 6 + 1, none⟩ = some (.slice rq.lo.A rq.lo.n rq.lo.c) ∧ w'.cell? ⟨gr, q * 6 + 2, none⟩ = some (I rq.lo.den) ∧ w'.cell? ⟨gr, q * 6 + 3, none⟩ = some (.bool rq.hi.neg) ∧ w'.cell? ⟨gr, q * 6 + 4, none⟩ = some (.slice rq.hi.A rq.hi.n rq.hi.c) ∧ w'.cell? ⟨gr, q * 6 + 5, none⟩ = some (I rq.hi.den))) (first | exact HS.out _ ex2 | (refine ⟨⟨?_, ?_, ?_, ?_, ?_, ?_⟩, ⟨?_, ?_, ?_, ?_, ?_, ?_⟩, ⟨?_, ?_, ?_, ?_, ?_, ?_⟩⟩ <;> (rw [cell_far6g (by omega)]; assumption)))
    (first
    | (go_at_call 56; (with_reducible refine (HC3.out _ ex2).mono ?_); rintro e1 w3 ⟨rfl, h3⟩)
    | (go_at_call 140; (with_reducible refine (HHU.out _ ex2).mono ?_); rintro e1 w4 ⟨rh, rfl, cn4, _, h4⟩; have CN4 := Lib.hid cn4; clear cn4)
    | (go_at_call 139; (with_reducible refine (HRO.out _ _ ex2 (CN4.out.ext ex2)).mono ?_); rintro e1 w5 ⟨rr, rfl, cn5, nw5, h5⟩; have CN5 := Lib.hid cn5; have hx5 : Ext wr w5 := ex2; have HX5 := Lib.hid hx5; have HA5 : Hid (NwI wr.heap.size rr yv) := nw5.mono (show Ext wr _ from ex2).size; clear cn5 nw5; obtain ⟨⟨a0, a1, a2, a3, a4, a5⟩, ⟨x0, x1, x2, x3, x4, x5⟩, ⟨r0, r1, r2, r3, r4, r5⟩⟩ := HS.out w5 hx5; have fz := (H.out.1.to hx5).lv.frozen; have f0 := fz (j * 6); have f1 := fz (j * 6 + 1); have f2 := fz (j * 6 + 2); have f3 := fz (j * 6 + 3); have f4 := fz (j * 6 + 4); have f5 := fz (j * 6 + 5); obtain ⟨d0, d1, d2, d3, d4, d5⟩ := (H.out.1.to hx5).lv.cells hlt; clear fz))
   all_goals
    have hp0 := H.out.1.put HX5.out j rr yv CN5.out HA5.out
    have hxx0 := st6_ext g j rr (H.out.2.trans HX5.out) HGW.out
    obtain ⟨wy, hwy⟩ : ∃ wy, wy = (((((w5.setCell ⟨g, j * 6, none⟩ (.bool rr.lo.neg)).setCell ⟨g, j * 6 + 1, none⟩ (.slice rr.lo.A rr.lo.n rr.lo.c)).setCell ⟨g, j * 6 + 2, none⟩ (I rr.lo.den)).setCell ⟨g, j * 6 + 3, none⟩ (.bool rr.hi.neg)).setCell ⟨g, j * 6 + 4, none⟩ (.slice rr.hi.A rr.hi.n rr.hi.c)).setCell ⟨g, j * 6 + 5, none⟩ (I rr.hi.den) := ⟨_, rfl⟩
    have hst : st6 w5 g j rr = wy := by rw [hwy]
    rw [hst] at hp0 hxx0
    rw [← hwy]
    clear hst
    have HP := Lib.hid hp0; have HXX := Lib.hid hxx0
    clear hp0 hxx0 hwy d0 d1 d2 d3 d4 d5 f0 f1 f2 f3 f4 f5
    go_wp2_with fail
    go_roundw
    case rel => exact ⟨j + 1, _, by omega, by go_num, HP.out.congr HUP.out, HXX.out⟩
    case measure => simp [intOf]; omega
  ·obtain rfl : j = n := by omega
   go_wp2_with fail
   go_ret2
   exact ⟨g, R', rfl, H.out.1.congr fun i hi => uptoI_end hi⟩
end
section
open Go Go.RowKit
attribute [local go_sem ↓] Go.wp_at_zero Go.wp_at_succ
set_option maxRecDepth 100000 in
set_option maxHeartbeats 1000000 in
theorem indexI_any (g : FuncId) (A : Option Addr) (n c : Nat) (R : Nat → RI) (q : Nat → Bool) (w : World) (r : RnI w A n R) (hn : n ≤ 100000) (eg : ∀ args w, (callFunc g args).run Tryz.prog w = .ok (.enter g args) w)
  (hf0 : ∀ (i : Nat) (w' : World), i < n → Ext w w' → Calls Tryz.prog g #[(R i).v] w' fun e w'' => e = .returned (.bool (q i)) ∧ Ext w' w'') :
  Calls Tryz.prog 136 #[.slice A n c, .func (.func g) #[] #[]] w fun e w' => e = .returned (I (fstI n q)) ∧ Ext w w' := by
 have HF := Lib.hid hf0; clear hf0
 have R' := Lib.hid r; clear r
 go_enter Tryz.func136, Tryz.ntmps136
 go_wp2
 go_loopw [8] (fun s wr => ∃ j : Nat, j ≤ n ∧ s = I j ∧ Ext w wr ∧ Hid (∀ i, i < j → q i = false)) (fun s _ => n - (intOf s).toNat)
 case atStart => exact ⟨0, Nat.zero_le _, rfl, Ext.refl _, fun i hi => absurd hi (by omega)⟩
 case round =>
  obtain ⟨j, hj, rfl, hb, HG⟩ := hrel
  by_cases hlt : j < n
  ·obtain ⟨b, o, rfl, hba, ca⟩ := R'.out.ext hb (by omega)
   obtain ⟨x0, x1, x2, x3, x4, x5⟩ := ca j hlt
   have hlt' : (j : Int) < (n : Int) := by omega
   clear ca
   have hc0 := HF.out j _ hlt hb
   generalize R j = y at *
   have HC := Lib.hid hc0; clear hc0
   cases hq : q j with
   | true =>
    rw [hq] at HC
    have HR := Lib.hid (fstI_hit HG.out hlt hq)
    clear hq
    go_wp2_with (go_at_fn g; refine HC.out.mono ?_; rintro e w1 ⟨rfl, hb1⟩; replace hb := Ext.trans hb hb1; clear hb1)
    go_ret
    exact ⟨by rw [HR.out]; rfl, hb⟩
   | false =>
    rw [hq] at HC
    have HG2 : Hid (∀ i, i < j + 1 → q i = false) := fun i hi => by
     by_cases h : i = j
     ·subst h; exact hq
     ·exact HG.out i (by omega)
    clear hq
    go_wp2_with (go_at_fn g; refine HC.out.mono ?_; rintro e w1 ⟨rfl, hb1⟩; replace hb := Ext.trans hb hb1; clear hb1)
    go_roundw
    case rel => exact ⟨j + 1, by omega, by go_num, hb, HG2⟩
    case measure => simp [intOf]; omega
  ·obtain rfl : j = n := by omega
   have HR := Lib.hid (fstI_none HG.out)
   go_wp2
   go_ret
   exact ⟨by rw [HR.out]; rfl, hb⟩
set_option maxRecDepth 100000 in
set_option maxHeartbeats 1000000 in
theorem containsI_any (g : FuncId) (A : Option Addr) (n c : Nat) (R : Nat → RI) (q : Nat → Bool) (w : World) (r : RnI w A n R) (hn : n ≤ 100000) (eg : ∀ args w, (callFunc g args).run Tryz.prog w = .ok (.enter g args) w)
  (hf0 : ∀ (i : Nat) (w' : World), i < n → Ext w w' → Calls Tryz.prog g #[(R i).v] w' fun e w'' => e = .returned (.bool (q i)) ∧ Ext w' w'') :
  Calls Tryz.prog 70 #[.slice A n c, .func (.func g) #[] #[]] w fun e w' => e = .returned (.bool (anyN n q)) ∧ Ext w w' := by
 have HC := Lib.hid (indexI_any g A n c R q w r hn eg hf0)
 clear hf0 r eg
 unfold anyN
 generalize fstI n q = z at *
 by_cases h : 0 ≤ z
 all_goals
  go_enter Tryz.func70, Tryz.ntmps70
  go_wp2_with (go_at_call 136; refine HC.out.mono ?_; rintro e w1 ⟨rfl, hb1⟩)
  go_ret
  exact ⟨by simp [h], hb1⟩
set_option maxRecDepth 100000 in
set_option maxHeartbeats 1000000 in
theorem equalI_any (g : FuncId) (A B : Option Addr) (n c k : Nat) (R T : Nat → RI) (q : Nat → Bool) (w : World) (r : RnI w A n R) (t : RnI w B n T) (hn : n ≤ 100000) (eg : ∀ args w, (callFunc g args).run Tryz.prog w = .ok (.enter g args) w)
  (hf0 : ∀ (i : Nat) (w' : World), i < n → Ext w w' → Calls Tryz.prog g #[(R i).v, (T i).v] w' fun e w'' => e = .returned (.bool (q i)) ∧ Ext w' w'') :
  Calls Tryz.prog 73 #[.slice A n c, .slice B n k, .func (.func g) #[] #[]] w fun e w' => e = .returned (.bool (allN n q)) ∧ Ext w w' := by
 have HF := Lib.hid hf0; clear hf0
 have R' := Lib.hid r; clear r
 have T' := Lib.hid t; clear t
 obtain ⟨v, hv⟩ : ∃ v, allN n q = v := ⟨_, rfl⟩
 have HV := Lib.hid hv
 rw [hv]
 clear hv
 have g0 : ((n : Int) != (n : Int)) = false := by simp
 go_enter Tryz.func73, Tryz.ntmps73
 go_wp2
 go_loopw [17] (fun s wr => ∃ j : Nat, j ≤ n ∧ s = I j ∧ Ext w wr ∧ Hid (∀ i, i < j → q i = true)) (fun s _ => n - (intOf s).toNat)
 case atStart => exact ⟨0, Nat.zero_le _, rfl, Ext.refl _, fun i hi => absurd hi (by omega)⟩
 case round =>
  obtain ⟨j, hj, rfl, hb, HG⟩ := hrel
  by_cases hlt : j < n
  ·obtain ⟨b, o, rfl, hba, ca⟩ := R'.out.ext hb (by omega)
   obtain ⟨b', o', rfl, hba', ca'⟩ := T'.out.ext hb (by omega)
   obtain ⟨x0, x1, x2, x3, x4, x5⟩ := ca j hlt
   obtain ⟨y0, y1, y2, y3, y4, y5⟩ := ca' j hlt
   have hlt' : (j : Int) < (n : Int) := by omega
   clear ca ca'
   have hc0 := fun w' e => HF.out j w' hlt (hb.trans e)
   generalize R j = x at *
   generalize T j = y at *
   have HC : Hid (∀ w', Ext wr w' → Calls Tryz.prog g #[x.v, y.v] w' fun e w'' => e = .returned (.bool (q j)) ∧ Ext w' w'') := hc0
   clear hc0
   cases hq : q j with
   | false =>
    obtain rfl : v = false := by rw [← HV.out]; exact allN_false.2 ⟨j, hlt, hq⟩
    rw [hq] at HC
    clear hq
    go_wp2_with (go_at_fn g; refine (HC.out _ ((Ext.alloc _ _).trans (Ext.alloc _ _))).mono ?_; rintro e w1 ⟨rfl, hb1⟩; replace hb := Ext.trans hb (((Ext.alloc _ _).trans (Ext.alloc _ _)).trans hb1); clear hb1)
    go_ret
    exact ⟨rfl, hb⟩
   | true =>
    rw [hq] at HC
    have HG2 : Hid (∀ i, i < j + 1 → q i = true) := fun i hi => by
     by_cases h : i = j
     ·subst h; exact hq
     ·exact HG.out i (by omega)
    clear hq
    go_wp2_with (go_at_fn g; refine (HC.out _ ((Ext.alloc _ _).trans (Ext.alloc _ _))).mono ?_; rintro e w1 ⟨rfl, hb1⟩; replace hb := Ext.trans hb (((Ext.alloc _ _).trans (Ext.alloc _ _)).trans hb1); clear hb1)
    go_roundw
    case rel => exact ⟨j + 1, by omega, by go_num, hb, HG2⟩
    case measure => simp [intOf]; omega
  ·obtain rfl : j = n := by omega
   obtain rfl : v = true := by rw [← HV.out]; exact allN_iff.2 HG.out
   go_wp2
   go_ret
   exact ⟨rfl, hb⟩
end
section
open Go Go.RowKit
end
section
open Go Go.RowKit
end
section
open Go Go.RowKit
end
section
open Go Go.RowKit
end
section
open Go Go.RowKit
attribute [local go_sem ↓] Go.wp_at_zero Go.wp_at_succ
theorem CnI.v_eq {w : World} {r : RI} {x : IV} (h : CnI w r x) : r.v = ivd x.lo r.lo.A r.lo.c x.hi r.hi.A r.hi.c := by
 show iv r.lo.neg r.lo.A r.lo.n r.lo.c r.lo.den r.hi.neg r.hi.A r.hi.n r.hi.c r.hi.den = _
 rw [h.lo.neg, h.lo.n, h.lo.den, h.hi.neg, h.hi.n, h.hi.den]
theorem same_ri {w : World} {r s : RI} {x : IV} (h : CnI w r x) (k : CnI w s x) : Calls Tryz.prog 40 #[r.v, s.v] w fun e w' => e = .returned (.bool true) ∧ Ext w w' := by
 rw [h.v_eq, k.v_eq]
 exact isame_true h.lo.rd h.hi.rd k.lo.rd k.hi.rd (Nat.le_trans h.el (by decide)) (Nat.le_trans h.eh (by decide))
end
section
open Go Go.RowKit
attribute [local go_sem ↓] Go.wp_at_zero Go.wp_at_succ
theorem DyRes.fr {d : DV} {w : World} {e : Ending} {w' : World} (h : DyRes d w e w') (ok : d.ok) (hl : len d.m ≤ 16777216) : ∃ A c, e = .returned (dv d.neg A (len d.m) c d.den) ∧ Fr w' w.heap.size A (len d.m) c (dg d.m) ∧ Ext w w' := by
 obtain ⟨A, c, he, cn, nw, hx⟩ := h.cn ok hl
 exact ⟨A, c, he, ⟨cn.rd, cn.sl, fun _ a ha => nw a ha⟩, hx⟩
end
section
open Go Go.RowKit
theorem Rd.gr {w w' : World} {A : Option Addr} {n : Nat} {f : Nat → Nat} {row : Option Nat} (h : Rd w A n f) (e : w.grownBy w' row) (hne : ∀ a, A = some a → some a.block ≠ row) : Rd w' A n f := fun hn => by
 obtain ⟨b, o, rfl, hb, hc⟩ := h hn
 have hbl := e.block b hb (hne _ rfl)
 exact ⟨b, o, rfl, Nat.lt_of_lt_of_le hb e.size, fun i hi => by rw [← hc i hi]; exact World.cell?_of_block (a := ⟨b, o + i, none⟩) hbl⟩
theorem Cn.gr {w w' : World} {r : RN} {d : DV} {row : Option Nat} (h : Cn w r d) (e : w.grownBy w' row) (hne : 0 < len d.m → ∀ a, r.A = some a → some a.block ≠ row) : Cn w' r d :=
 ⟨h.eq, fun hn => h.rd.gr e (hne hn) hn, h.sl, h.ok, h.lim⟩
theorem Cn.blk {w : World} {r : RN} {d : DV} (h : Cn w r d) (hl : 0 < len d.m) : ∀ a, r.A = some a → a.block < w.heap.size := fun a ha => by
 obtain ⟨b, o, e, hb, _⟩ := h.rd hl
 rw [ha] at e; injection e with e; subst e; exact hb
structure NwM (W w : World) (base : Nat) (A : Option Addr) (c : Nat) (R : Nat → RN) (V : Nat → DV) (j : Nat) : Prop where
 ext : Ext W w
 bas : W.heap.size ≤ base
 blt : base ≤ w.heap.size
 own : OwN w base A c R j
 el : ∀ i, i < j → Cn w (R i) (V i)
 ne : ∀ i, i < j → 0 < len (V i).m → ∀ a, (R i).A = some a → some a.block ≠ (Value.slice A j c).ownBlock
theorem NwM.nil {W w : World} {base : Nat} (e : Ext W w) (h : W.heap.size ≤ base) (hb : base ≤ w.heap.size) (R : Nat → RN) (V : Nat → DV) : NwM W w base none 0 R V 0 :=
 ⟨e, h, hb, OwN.nil _ _ _, fun i hi => absurd hi (by omega), fun i hi => absurd hi (by omega)⟩
theorem NwM.to {W w w' : World} {base : Nat} {A : Option Addr} {c : Nat} {R : Nat → RN} {V : Nat → DV} {j : Nat} (h : NwM W w base A c R V j) (e : Ext w w') : NwM W w' base A c R V j :=
 ⟨h.ext.trans e, h.bas, Nat.le_trans h.blt e.size, h.own.ext e, fun i hi => (h.el i hi).ext e, h.ne⟩
theorem NwM.congr {W w : World} {base : Nat} {A : Option Addr} {c : Nat} {R : Nat → RN} {V V' : Nat → DV} {j : Nat} (h : NwM W w base A c R V j) (e : ∀ i, i < j → V i = V' i) : NwM W w base A c R V' j :=
 ⟨h.ext, h.bas, h.blt, h.own, fun i hi => by rw [← e i hi]; exact h.el i hi, fun i hi => by rw [← e i hi]; exact h.ne i hi⟩
theorem NwM.ln {W w : World} {base : Nat} {A : Option Addr} {c : Nat} {R : Nat → RN} {V : Nat → DV} {j : Nat} (h : NwM W w base A c R V j) : Ln w A j R V := ⟨h.own.rn, h.el⟩
theorem NwM.step {W w wb w' : World} {base g cap : Nat} {A : Option Addr} {c : Nat} {R : Nat → RN} {V : Nat → DV} {j : Nat} (h : NwM W w base A c R V j) (e : Ext w wb) (r : RN) (d : DV) (cn : Cn wb r d)
  (hne : 0 < len d.m → ∀ a, r.A = some a → some a.block ≠ (Value.slice A j c).ownBlock)
  (o : OwN w' base (some ⟨g, 0, none⟩) cap (putR R j r) (j + 1)) (hg : wb.grownBy w' (Value.slice A j c).ownBlock) (hat : (Value.slice A j c).ownBlock = some g ∨ g = wb.heap.size) :
  NwM W w' base (some ⟨g, 0, none⟩) cap (putR R j r) (putD V j d) (j + 1) := by
 have hb := h.bas
 refine ⟨growN_ext (h.ext.trans e) (h.own.ext e) hb hg, hb, Nat.le_trans h.blt (Nat.le_trans e.size hg.size), o, fun i hi => ?_, fun i hi hl a ha => ?_⟩
 ·unfold putR putD
  by_cases q : i = j
  ·rw [if_pos q, if_pos q]; exact cn.gr hg hne
  ·rw [if_neg q, if_neg q]; exact ((h.el i (by omega)).ext e).gr hg (h.ne i (by omega))
 ·have hown : (Value.slice (some ⟨g, 0, none⟩) (j + 1) cap).ownBlock = some g := rfl
  rw [hown]
  unfold putR at ha
  unfold putD at hl
  by_cases q : i = j
  ·rw [if_pos q] at ha hl
   rcases hat with hat | hat
   ·rw [← hat]; exact hne hl a ha
   ·have := cn.blk hl a ha
    intro q2; injection q2 with q2; omega
  ·rw [if_neg q] at ha hl
   rcases hat with hat | hat
   ·rw [← hat]; exact h.ne i (by omega) hl a ha
   ·have := ((h.el i (by omega)).ext e).blk hl a ha
    intro q2; injection q2 with q2; omega
theorem NwM.own' {W w wb : World} {base : Nat} {A : Option Addr} {c : Nat} {R : Nat → RN} {V : Nat → DV} {j : Nat} (h : NwM W w base A c R V j) (e : Ext w wb) (r : RN) : OwN wb base A c (putR R j r) j :=
 (h.own.ext e).congr fun i hi => (if_neg (by omega)).symm
theorem news3 {w : World} {g : Nat} {r : RN} {t : TypeId} (hg : g = w.heap.size) (R : Nat → RN) (j : Nat) : ∀ k u, (nc1 (putR R j r j))[k]? = some u → (w.alloc (.cells #[.bool r.neg, .slice r.A r.n r.c, I r.den] t)).cell? ((⟨g, 0, none⟩ : Addr).add k) = some u := fun k u h => by
 subst hg
 rw [show putR R j r j = r from if_pos rfl] at h
 match k, h with
 | 0, h => simp [nc1] at h; subst h; go_simp
 | 1, h => simp [nc1] at h; subst h; go_simp
 | 2, h => simp [nc1] at h; subst h; go_simp
 | k + 3, h => simp [nc1] at h
end
section
open Go Go.RowKit
attribute [local go_sem ↓] Go.wp_at_zero Go.wp_at_succ
end
section
open Go Go.RowKit
attribute [local go_sem ↓] Go.wp_at_zero Go.wp_at_succ
def lsI (R : Nat → RI) (n : Nat) : List Value := (List.range (n * 6)).map (rci R)
def RwC (w : World) (g n : Nat) (R : Nat → RI) : Prop := ∃ N f, w.rowIs g 58 N f ∧ n * 6 ≤ N ∧ ∀ j, j < n * 6 → f j = rci R j
theorem rci_at {w : World} {n : Nat} {R : Nat → RI} {b o : Nat} (h : ∀ i, i < n → w.cell? ⟨b, o + i * 6, none⟩ = some (.bool (R i).lo.neg) ∧ w.cell? ⟨b, o + i * 6 + 1, none⟩ = some (.slice (R i).lo.A (R i).lo.n (R i).lo.c) ∧ w.cell? ⟨b, o + i * 6 + 2, none⟩ = some (I (R i).lo.den) ∧
  w.cell? ⟨b, o + i * 6 + 3, none⟩ = some (.bool (R i).hi.neg) ∧ w.cell? ⟨b, o + i * 6 + 4, none⟩ = some (.slice (R i).hi.A (R i).hi.n (R i).hi.c) ∧ w.cell? ⟨b, o + i * 6 + 5, none⟩ = some (I (R i).hi.den)) {j : Nat} (hj : j < n * 6) : w.cell? ⟨b, o + j, none⟩ = some (rci R j) := by
 obtain ⟨h0, h1, h2, h3, h4, h5⟩ := h (j / 6) (by omega)
 have hm : j % 6 = 0 ∨ j % 6 = 1 ∨ j % 6 = 2 ∨ j % 6 = 3 ∨ j % 6 = 4 ∨ j % 6 = 5 := by omega
 unfold rci
 rcases hm with m | m | m | m | m | m
 ·rw [if_pos m, show o + j = o + j / 6 * 6 by omega]; exact h0
 ·rw [if_neg (by omega), if_pos m, show o + j = o + j / 6 * 6 + 1 by omega]; exact h1
 ·rw [if_neg (by omega), if_neg (by omega), if_pos m, show o + j = o + j / 6 * 6 + 2 by omega]; exact h2
 ·rw [if_neg (by omega), if_neg (by omega), if_neg (by omega), if_pos m, show o + j = o + j / 6 * 6 + 3 by omega]; exact h3
 ·rw [if_neg (by omega), if_neg (by omega), if_neg (by omega), if_neg (by omega), if_pos m, show o + j = o + j / 6 * 6 + 4 by omega]; exact h4
 ·rw [if_neg (by omega), if_neg (by omega), if_neg (by omega), if_neg (by omega), if_neg (by omega), show o + j = o + j / 6 * 6 + 5 by omega]; exact h5
theorem rci_one (R : Nat → RI) (j : Nat) : (rci R j).oneCell' = true := by
 unfold rci; repeat' split
 all_goals rfl
theorem RwC.of_own {w : World} {base g cap n : Nat} {R : Nat → RI} (h : w.ownsRow base 58 6 (.slice (some ⟨g, 0, none⟩) n cap) n (lsI R n)) : RwC w g n R := by
 obtain ⟨_, ⟨e, _⟩ | ⟨g', cap', cur, e, _, hb, hc, _, hs, ht⟩⟩ := h
 ·injection e with e _ _; cases e
 ·injection e with e1 e2 e3; cases e1; cases e3
  refine ⟨cap * 6, fun j => cur.getD j (I 0), ⟨cur, hb, hs, fun i hi => ?_⟩, by omega, fun j hj => ?_⟩
  ·simp [Array.getD, hs, hi]
  ·have h1 : (cur.toList.take (n * 6))[j]? = some (rci R j) := by rw [ht]; unfold lsI; simp [hj]
   rw [List.getElem?_take_of_lt hj] at h1
   simp only [Array.getElem?_toList] at h1
   simp [Array.getD_eq_getD_getElem?, h1]
set_option maxRecDepth 100000 in
set_option maxHeartbeats 1000000 in
theorem cloneI_any {w : World} {A : Option Addr} {n c : Nat} {R : Nat → RI} (r : RnI w A n R) (h0 : 0 < n) (hn : n ≤ 10000) :
  Calls Tryz.prog 141 #[.slice A n c] w fun e w' => ∃ g cap, e = .returned (.slice (some ⟨g, 0, none⟩) n cap) ∧ w.heap.size ≤ g ∧ RwC w' g n R ∧ Ext w w' := by
 have hnil : ∀ (w : World) (a : Option Addr) (n c n' c' : Nat), (binOp .eql 27 (.slice a n c) (.slice none n' c')).run Tryz.prog w = .ok (.bool a.isNone) w := fun w a n c n' c' => Lib.run_eql_slice_nil w _ _ a n c n' c' Tryz.underlying27
 obtain ⟨b, o, rfl, hb, hc⟩ := r h0
 obtain ⟨i, z, hi, hz, hsz, hby, hzc⟩ := infoIv'
 have HO : Hid ((w.alloc (.cells #[] 58)).ownsRow w.heap.size 58 6 (.slice (some ⟨w.heap.size, 0, none⟩) 0 0) 0 []) := World.ownsRow_made w #[] 0 (Nat.le_refl _) (Nat.zero_le _) rfl
 have HN : Hid (∀ j u, (lsI R n)[j]? = some u → (w.alloc (.cells #[] 58)).cell? ((⟨b, o, none⟩ : Addr).add j) = some u) := fun j u hj => by
  have hjn : j < n * 6 := by
   rcases Nat.lt_or_ge j (n * 6) with h | h
   ·exact h
   ·rw [List.getElem?_eq_none (by simp [lsI]; omega)] at hj; cases hj
  have hu : u = rci R j := by simp [lsI, hjn] at hj; exact hj.symm
  have hadd : (⟨b, o, none⟩ : Addr).add j = ⟨b, o + j, none⟩ := by unfold Addr.add; split <;> simp_all
  rw [hadd, hu, (Ext.alloc w (.cells #[] 58)).old.1 _ _ hb]
  exact rci_at hc hjn
 have HG : Hid (∀ u ∈ lsI R n, u.oneCell' = true) := fun u hu => by
  simp only [lsI, List.mem_map] at hu
  obtain ⟨j, _, rfl⟩ := hu
  exact rci_one R j
 clear hc r
 go_enter Tryz.func141, Tryz.ntmps141
 go_wp2_with (at_builtin; refine wpList_append_lies _ rfl _ _ _ rfl w.heap.size 58 i z 6 80 Tryz.underlying27 hi hz hsz hby (by rw [hzc]; rfl) (by omega) _ 0 [] rfl HO.out ⟨b, o, none⟩ n c (lsI R n) rfl (by simp [lsI]) HN.out HG.out h0 (by unfold maxLen; omega) (by omega) (by simp) _ rfl ?_; intro g cap w1 hown hgrow hat hlt; have O1 := Lib.hid hown; have G1 := Lib.hid hgrow; have A1 := Lib.hid hat; clear hown hgrow hat)
 go_ret
 have o1 := O1.out
 rw [Nat.zero_add, List.nil_append] at o1
 refine ⟨g, cap, by simp, ?_, RwC.of_own o1, Below.grown (Ext.alloc w _) G1.out (by simp) (fun k hk => by have hk' : w.heap.size = k := Option.some.inj hk; omega)⟩
 rcases A1.out with q | q
 ·have q' : w.heap.size = g := Option.some.inj q
  omega
 ·simp at q; omega
end
section
open Go Go.RowKit
theorem pw_q {e : Int} (h1 : -30 ≤ e) (h2 : e ≤ 65536) : (pwD e).q = qOf false (2 ^ (e + 30).toNat) 30 := by
 unfold pwD shiftD
 have hc : clampN e = e := by unfold clampN; omega
 rw [hc, show ofI 1 0 = ⟨false, 1, 0⟩ from by rw [ofI_form, if_neg (by decide)]; rfl]
 split
 ·rw [q_mkD _ _ (by show 0 + _ ≤ _; omega)]
  show qOf false 1 (0 + (-e).toNat) = _
  rw [← qOf_shift _ _ _ (e + 30).toNat, show 0 + (-e).toNat + (e + 30).toNat = 30 by omega, Nat.one_mul]
 ·rw [q_mkD _ _ (by show 0 ≤ _; omega)]
  show qOf false (1 * 2 ^ e.toNat) 0 = _
  rw [← qOf_shift _ _ _ 30, Nat.one_mul, ← Nat.pow_add, show e.toNat + 30 = (e + 30).toNat by omega]
theorem bits_ge : ∀ (n m : Nat), bitsN m = n + 1 → 2 ^ n ≤ m
 | 0, m, h => by
  by_cases h0 : m = 0
  ·subst h0; rw [bitsN_zero] at h; omega
  ·simp; omega
 | n + 1, m, h => by
  by_cases h0 : m = 0
  ·subst h0; rw [bitsN_zero] at h; omega
  ·rw [bitsN_pos h0] at h
   have := bits_ge n (m / 2) (by omega)
   rw [Nat.pow_succ]; omega
theorem qOf_mono {a b k : Nat} (h : a ≤ b) : qOf false a k ≤ qOf false b k := by
 show (a : Rat) / qp k ≤ (b : Rat) / qp k
 have hp := qp_pos k
 have hc : (a : Rat) ≤ (b : Rat) := Rat.natCast_le_natCast.2 h
 rw [Rat.div_def, Rat.div_def]
 exact Rat.mul_le_mul_of_nonneg_right hc (Rat.le_of_lt (Rat.inv_pos.2 hp))
theorem paD_ge {x : DV} (ok : x.ok) (hl : len x.m ≤ 1000) : x.q ≤ (paD x).q := by
 have hy1 : x.q ≤ (ceilD x 30).q := by
  have f2 := (floor_q (negD_ok x) 30 (by decide)).1
  have e3 : (ceilD x 30).q = -(floorD (negD x) 30).q := q_negD (floorD_ok (negD_ok _) 30)
  have e4 : (negD x).q = -x.q := q_negD ok
  grind
 have hyd : (ceilD x 30).den ≤ 30 := ceil_den 30 (by decide)
 have hyl := lim_ceil x 30
 unfold paD
 generalize ceilD x 30 = y at *
 refine Rat.le_trans hy1 ?_
 by_cases s0 : signD y = 0
 ·rw [if_pos s0]; exact Rat.le_refl
 rw [if_neg s0]
 have hm : y.m ≠ 0 := fun h => s0 (by unfold signD; rw [if_pos h])
 obtain ⟨t, ht⟩ : ∃ t, bitsN y.m = t + 1 := ⟨bitsN y.m - 1, by rw [bitsN_pos hm]; omega⟩
 have b1 := bits_ge t y.m ht
 have b2 := lt_bits (t + 1) y.m ht
 have b3 := bitsN_len y.m
 have he : xpD y = (t : Int) - y.den := by unfold xpD; omega
 have hq : qOf false (y.m * 2 ^ (30 - y.den)) 30 = qOf false y.m y.den := by
  have := qOf_shift false y.m y.den (30 - y.den)
  rwa [show y.den + (30 - y.den) = 30 by omega] at this
 have p1 := pw_q (e := xpD y) (by omega) (by omega)
 have p2 := pw_q (e := xpD y + 1) (by omega) (by omega)
 have n1 : (xpD y + 30).toNat = t + (30 - y.den) := by omega
 have n2 : (xpD y + 1 + 30).toNat = t + 1 + (30 - y.den) := by omega
 rw [n1, Nat.pow_add] at p1
 rw [n2, Nat.pow_add] at p2
 have g1 : (pwD (xpD y)).q ≤ qOf false y.m y.den := by rw [p1, ← hq]; exact qOf_mono (Nat.mul_le_mul_right _ b1)
 have g2 : qOf false y.m y.den ≤ (pwD (xpD y + 1)).q := by rw [p2, ← hq]; exact qOf_mono (Nat.mul_le_mul_right _ (Nat.le_of_lt b2))
 by_cases s1 : signD y < 0
 ·rw [if_pos s1, q_negD (pwD_len _).1]
  have hn : y.neg = true := by
   unfold signD at s1; rw [if_neg hm] at s1
   cases h : y.neg with
   | true => rfl
   | false => rw [h] at s1; simp at s1
  have : y.q = -(qOf false y.m y.den) := by unfold DV.q; rw [hn]; rfl
  rw [this]; grind
 ·rw [if_neg s1]
  split
  ·have hn : y.neg = false := by
    unfold signD at s1; rw [if_neg hm] at s1
    cases h : y.neg with
    | false => rfl
    | true => rw [h] at s1; simp at s1
   have : y.q = qOf false y.m y.den := by unfold DV.q; rw [hn]
   rw [this]; exact g2
  ·exact Rat.le_refl
end
end Go.Proofs.YtgnngldlgcdnfaaGreatDoor
