import Derived.Test.YtgnngldlgcdnfaaGreatDoorQar
import Derived.Test.YtgnngldlgcdnfaaGreatDoorQal
import Derived.Deep.RegionWith
import Derived.Test.YtgnngldlgcdnfaaGreatDoorQas
import Derived.Test.YtgnngldlgcdnfaaGreatDoorQax
import Derived.Deep.RegionHeld3
import Derived.Deep.DeepCutAuto
namespace Go.Proofs.YtgnngldlgcdnfaaGreatDoor
section
open Go.RowKit
def slo (D : Nat → DV) : Nat → DV
 | 0 => D 0
 | k + 1 => minD (slo D k) (D (k + 1))
def shi (D : Nat → DV) : Nat → DV
 | 0 => D 0
 | k + 1 => maxD (shi D k) (D (k + 1))
def Bdd (d : DV) : Prop := d.ok ∧ len d.m ≤ 4194304
theorem bd_sub {a b : DV} (ha : Bdd a) (hb : Bdd b) : len (subD a b).m ≤ 16777216 ∧ (subD a b).ok := by
 obtain ⟨o1, l1⟩ := ha
 obtain ⟨o2, l2⟩ := hb
 have := lim_sub o1.2.1 o2.2.1
 exact ⟨by omega, subD_ok _ _⟩
theorem slo_bd {D : Nat → DV} {N : Nat} (h : ∀ i, i ≤ N → Bdd (D i)) : ∀ k, k ≤ N → Bdd (slo D k) ∧ Bdd (shi D k)
 | 0, _ => ⟨h 0 (by omega), h 0 (by omega)⟩
 | k + 1, hk => by
  obtain ⟨i1, i2⟩ := slo_bd h k (by omega)
  exact ⟨sz_min (P := Bdd) i1 (h (k + 1) hk), sz_max (P := Bdd) i2 (h (k + 1) hk)⟩
def Spn (w wx : World) (base p : Nat) (lo hi : DV) : Prop := ∃ A c B e,
 Ext w wx ∧ B6 wx p (.bool lo.neg) (.slice A (len lo.m) c) (I lo.den) (.bool hi.neg) (.slice B (len hi.m) e) (I hi.den) ∧
 B6 wx w.heap.size (.bool false) (.slice none 0 0) (I 0) (.bool false) (.slice none 0 0) (I 0) ∧ w.heap.size < p ∧
 Off wx base p w.heap.size A (len lo.m) c (dg lo.m) ∧ Off wx base p w.heap.size B (len hi.m) e (dg hi.m)
theorem B6.lo3 {w : World} {g : Nat} {v0 v1 v2 v3 v4 v5 : Value} (h : B6 w g v0 v1 v2 v3 v4 v5) (u0 u1 u2 : Value) : B6 (((w.setCell ⟨g, 0, none⟩ u0).setCell ⟨g, 1, none⟩ u1).setCell ⟨g, 2, none⟩ u2) g u0 u1 u2 v3 v4 v5 := by
 have hl := h.lt
 obtain ⟨⟨h0, h1, h2, h3, h4, h5⟩, hf⟩ := h
 exact ⟨⟨by go_simp, by go_simp, by go_simp, by go_simp, by go_simp, by go_simp⟩, fun i => by simp [hf i]⟩
theorem B6.hi3 {w : World} {g : Nat} {v0 v1 v2 v3 v4 v5 : Value} (h : B6 w g v0 v1 v2 v3 v4 v5) (u3 u4 u5 : Value) : B6 (((w.setCell ⟨g, 3, none⟩ u3).setCell ⟨g, 4, none⟩ u4).setCell ⟨g, 5, none⟩ u5) g v0 v1 v2 u3 u4 u5 := by
 have hl := h.lt
 obtain ⟨⟨h0, h1, h2, h3, h4, h5⟩, hf⟩ := h
 exact ⟨⟨by go_simp, by go_simp, by go_simp, by go_simp, by go_simp, by go_simp⟩, fun i => by simp [hf i]⟩
theorem spn_of {w W : World} {base p : Nat} {lo hi : DV} {A B : Option Addr} {c e : Nat} {a0 a1 a2 b0 b1 b2 : Value} (hx : Ext w W) (hp : B6 W p a0 a1 a2 b0 b1 b2)
  (hz : B6 W w.heap.size (.bool false) (.slice none 0 0) (I 0) (.bool false) (.slice none 0 0) (I 0)) (h1 : w.heap.size < p)
  (ha : Off W base p w.heap.size A (len lo.m) c (dg lo.m)) (hb : Off W base p w.heap.size B (len hi.m) e (dg hi.m)) :
  Spn w ((((((W.setCell ⟨p, 0, none⟩ (.bool lo.neg)).setCell ⟨p, 1, none⟩ (.slice A (len lo.m) c)).setCell ⟨p, 2, none⟩ (I lo.den)).setCell ⟨p, 3, none⟩ (.bool hi.neg)).setCell ⟨p, 4, none⟩ (.slice B (len hi.m) e)).setCell ⟨p, 5, none⟩ (I hi.den)) base p lo hi := by
 refine ⟨A, c, B, e, ?_, (hp.lo3 _ _ _).hi3 _ _ _, ?_, h1, ?_, ?_⟩
 ·exact Ext.set (Ext.set (Ext.set (ext_set3 hx (by omega) _ _ _) (by simp; omega) _) (by simp; omega) _) (by simp; omega) _
 ·have o := (hz.far3 (g' := p) (by omega) (.bool lo.neg) (.slice A (len lo.m) c) (I lo.den))
  obtain ⟨⟨h0, h1', h2, h3, h4, h5⟩, hf⟩ := o
  have hne : ¬ w.heap.size = p := by omega
  have hne2 : ¬ p = w.heap.size := by omega
  exact ⟨⟨by go_simp, by go_simp, by go_simp, by go_simp, by go_simp, by go_simp⟩, fun i => by simp [hf i]⟩
 ·exact ((((ha.set3p _ _ _).setp _ _).setp _ _).setp _ _)
 ·exact ((((hb.set3p _ _ _).setp _ _).setp _ _).setp _ _)
set_option maxRecDepth 100000 in
set_option maxHeartbeats 8000000 in
theorem rpoint_any {w : World} {n0 : Bool} {A0 A0' : Option Addr} {k0 c0 c0' : Nat} {d0 : Int} {x : DV} (hx : Dy w n0 A0 k0 c0 d0 x A0' c0') :
  Calls Tryz.prog 96 #[dv n0 A0 k0 c0 d0] w fun e w' => e = .returned (ivd x A0' c0' x A0' c0') ∧ Ext w w' := by
 have HX := Lib.hid hx; clear hx
 have B0 := Lib.hid ((Bx.new w (.bool n0) (.slice A0 k0 c0) (I d0) 56).ext (Ext.alloc _ (.cells #[.bool false, .slice none 0 0, I 0, .bool false, .slice none 0 0, I 0] 58)))
 have B1 : Hid (B6 ((w.alloc (.cells #[.bool n0, .slice A0 k0 c0, I d0] 56)).alloc (.cells #[.bool false, .slice none 0 0, I 0, .bool false, .slice none 0 0, I 0] 58)) (w.heap.size + 1) (.bool false) (.slice none 0 0) (I 0) (.bool false) (.slice none 0 0) (I 0)) := by
  have s := B6.new (w.alloc (.cells #[.bool n0, .slice A0 k0 c0, I d0] 56)) (.bool false) (.slice none 0 0) (I 0) (.bool false) (.slice none 0 0) (I 0) 58
  rw [show (w.alloc (.cells #[.bool n0, .slice A0 k0 c0, I d0] 56)).heap.size = w.heap.size + 1 by simp] at s
  exact s
 have E1 : Hid (Ext w ((w.alloc (.cells #[.bool n0, .slice A0 k0 c0, I d0] 56)).alloc (.cells #[.bool false, .slice none 0 0, I 0, .bool false, .slice none 0 0, I 0] 58))) := (Ext.alloc _ _).trans (Ext.alloc _ _)
 obtain ⟨⟨k0, k1, k2⟩, kz⟩ := B0.out
 go_enter Tryz.func96, Tryz.ntmps96
 go_wp2_with (go_at_call 76; (with_reducible refine (HX.out.norm _ E1.out).mono ?_); rintro e1 w1 ⟨rfl, hx⟩; clear k0 k1 k2 kz; obtain ⟨⟨k0, k1, k2⟩, kz⟩ := B0.out.ext hx; obtain ⟨⟨r0, r1, r2, r3, r4, r5⟩, rz⟩ := B1.out.ext hx; have E2 := Lib.hid (E1.out.trans hx); have hl0 := (B0.out.ext hx).lt; clear hx)
 exact bodyPost_ret (v := ivd x A0' c0' x A0' c0') (by simp [results, Tryz.results96, go_sem, r0, r1, r2, r3, r4, r5]) rfl ⟨rfl, ext_set6 (ext_set3 E2.out (by omega) _ _ _) (by omega) _ _ _ _ _ _⟩
set_option maxRecDepth 100000 in
set_option maxHeartbeats 60000000 in
theorem span_any {w : World} {g N : Nat} {ng : Nat → Bool} {As A' : Nat → Option Addr} {ns cs c' : Nat → Nat} {dn : Nat → Int} {D : Nat → DV}
  (hN : ∀ i, i ≤ N → Nth w g i (ng i) (As i) (ns i) (cs i) (dn i) (D i) (A' i) (c' i)) (hD : ∀ i, i ≤ N → Bdd (D i)) (hg : g < w.heap.size) (hL : N ≤ 1000) (hN0 : 0 < N) :
  Calls Tryz.prog 92 #[.slice (some ⟨g, 0, none⟩) (N + 1) (N + 1)] w (IvRes (slo D N) (shi D N) w) := by
 have HN := Lib.hid hN; have HD := Lib.hid hD; clear hN hD
 have HW := Lib.hid (slo_bd HD.out)
 have H0 : Hid (slo D 0 = D 0 ∧ shi D 0 = D 0) := ⟨rfl, rfl⟩
 have HS : Hid (∀ k, minD (slo D k) (D (k + 1)) = slo D (k + 1) ∧ maxD (shi D k) (D (k + 1)) = shi D (k + 1)) := fun k => ⟨rfl, rfl⟩
 have BZ0 := Lib.hid (B6.new w (.bool false) (.slice none 0 0) (I 0) (.bool false) (.slice none 0 0) (I 0) 58)
 have E0 := Lib.hid (Ext.alloc w (.cells #[.bool false, .slice none 0 0, I 0, .bool false, .slice none 0 0, I 0] 58))
 obtain ⟨⟨x0, x1, x2⟩, hd0⟩ := HN.out 0 (by omega)
 have y0 := (E0.out.old.1 _ _ hg).trans x0
 have y1 := (E0.out.old.1 _ _ hg).trans x1
 have y2 := (E0.out.old.1 _ _ hg).trans x2
 have HX0 := Lib.hid hd0
 clear x0 x1 x2 hd0
 simp only [Nat.zero_mul, Nat.zero_add] at y0 y1 y2
 have hNi : (1 : Int) ≤ (N : Int) + 1 := by omega
 go_enter Tryz.func92, Tryz.ntmps92
 go_wp2_with (go_at_call 96; (with_reducible refine (rpoint_any (HX0.out.ext E0.out)).mono ?_); rintro e1 w1 ⟨rfl, hx⟩; have E1 := Lib.hid (E0.out.trans hx); have BZ1 := Lib.hid (BZ0.out.ext hx); clear y0 y1 y2 hx)
 have hz1 := E1.out.size
 have hl0 : Hid (Spn w (w1.alloc (.cells #[.bool (D 0).neg, .slice (A' 0) (len (D 0).m) (c' 0), I (D 0).den, .bool (D 0).neg, .slice (A' 0) (len (D 0).m) (c' 0), I (D 0).den] 58)) (if (0 : Nat) = 0 then 0 else w.heap.size + 1) w1.heap.size (slo D 0) (shi D 0)) := by
  have o : Off (w1.alloc (.cells #[.bool (D 0).neg, .slice (A' 0) (len (D 0).m) (c' 0), I (D 0).den, .bool (D 0).neg, .slice (A' 0) (len (D 0).m) (c' 0), I (D 0).den] 58)) 0 w1.heap.size w.heap.size (A' 0) (len (D 0).m) (c' 0) (dg (D 0).m) := by
   refine ⟨⟨HX0.out.rd.ext (E1.out.trans (Ext.alloc _ _)), HX0.out.sl, fun _ _ _ => Nat.zero_le _⟩, fun hn a ha => ?_⟩
   obtain ⟨b, o, e, hb, _⟩ := HX0.out.rd hn
   rw [e] at ha; injection ha with ha; subst ha
   exact ⟨by show b ≠ _; omega, by show b ≠ _; omega⟩
  have hlt := BZ1.out.lt
  exact ⟨_, _, _, _, E1.out.trans (Ext.alloc _ _), B6.new w1 _ _ _ _ _ _ _, BZ1.out.ext (Ext.alloc _ _), hlt, o, o⟩
 have HLT := Lib.hid BZ1.out.lt
 generalize w1.heap.size = p at *
 generalize w1.alloc (.cells #[.bool (D 0).neg, .slice (A' 0) (len (D 0).m) (c' 0), I (D 0).den, .bool (D 0).neg, .slice (A' 0) (len (D 0).m) (c' 0), I (D 0).den] 58) = wl at *
 clear E1 E0 BZ0 BZ1 HX0 H0 hz1
 go_loopw [13] (fun s wr => ∃ k : Nat, k ≤ N ∧ s = I k ∧ Hid (Spn w wr (if k = 0 then 0 else w.heap.size + 1) p (slo D k) (shi D k))) (fun s _ => N - (intOf s).toNat)
 case atStart => exact ⟨0, Nat.zero_le _, rfl, hl0⟩
 case round =>
  obtain ⟨k, hk, rfl, hlr⟩ := hrel
  clear hl0
  by_cases hlt : k < N
  ·obtain ⟨A, c, B, e, hx, hp, hz, h1, oa, ob⟩ := hlr.out
   obtain ⟨⟨c0, c1, c2⟩, hd⟩ := HN.out (k + 1) (by omega)
   obtain ⟨l1, l2⟩ := HW.out k hk
   have l3 := HD.out (k + 1) (by omega)
   rw [show (k + 1) * 3 = 3 + k * 3 by omega] at c0 c1 c2
   have d0 := (hx.old.1 _ _ hg).trans c0
   have d1 := (hx.old.1 _ _ hg).trans c1
   have d2 := (hx.old.1 _ _ hg).trans c2
   have DL := Lib.hid (Dy.valid oa.1.rd oa.1.ok l1.1 (by have := l1.2; omega))
   have DH := Lib.hid (Dy.valid ob.1.rd ob.1.ok l2.1 (by have := l2.2; omega))
   have DX := Lib.hid (hd.ext hx)
   have S1 := Lib.hid (bd_sub l1 l3)
   have S2 := Lib.hid (bd_sub l2 l3)
   have EW := Lib.hid hx; have HP := Lib.hid hp; have HZ := Lib.hid hz; have HG1 := Lib.hid h1
   have hp0 := hp.lt
   have hpn := Nat.ne_of_lt hp0; have hpn' := Nat.ne_of_gt hp0
   obtain ⟨⟨a0, a1, a2, b0, b1, b2⟩, a3⟩ := hp
   have i1 : (0 : Int) ≤ (k : Int) := by omega
   have i2 : (k : Int) < (N : Int) := by omega
   have HT8 := Lib.hid (St.new wr (.bool (ng (k + 1))) (.slice (As (k + 1)) (ns (k + 1)) (cs (k + 1))) (I (dn (k + 1))) 56)
   have hlt8 := HT8.out.lt
   clear hlr hx hz h1 oa ob c0 c1 c2 hd l1 l2 l3 HN HW HD
   go_upto_region 5 with fail
   go_region_with (first
    | (have hg1 := hx1; clear hg1; go_at_call 158; (with_reducible refine (rmax_any (DH.out.ext ex2) (DX.out.ext ex2) S2.out.1 S2.out.2).mono ?_); rw [(HS.out k).2]; rintro e w2 ⟨A2, c2, rfl, hon2, hx2⟩; have O2 := Lib.hid hon2; clear hon2; have P2 := Lib.hid (P1.out.ext hx2); obtain ⟨⟨f0, f1, f2, f4, f5, f6⟩, f3⟩ := P2.out)
    | (go_at_call 157; (with_reducible refine (rmin_any (DL.out.ext ex2) (DX.out.ext ex2) S1.out.1 S1.out.2).mono ?_); rw [(HS.out k).1]; rintro e w1 ⟨A1, c1, rfl, hon1, hx1⟩; have O1 := Lib.hid hon1; clear hon1; have P1 := Lib.hid (HP.out.ext (w' := w1) ex2); have T1 := Lib.hid (HT8.out.ext (w' := w1) ex2); obtain ⟨⟨a0, a1, a2, b0, b1, b2⟩, a3⟩ := P1.out; obtain ⟨t0, t1, t2⟩ := T1.out))
   all_goals
    have o1 := O1.out
    have o2 := O2.out
    have hg1 := HG1.out
    have hz1 := Ext.size hx1
    have hz0 := EW.out.size
    simp only [World.size_drew, World.size_alloc] at o1 o2 hz1
    have hL := Lib.hid (spn_of (base := if k + 1 = 0 then 0 else w.heap.size + 1) (EW.out.trans ex2) P2.out (HZ.out.ext ex2) HG1.out ((On.off o1 (by rw [if_neg (by omega)]; omega) (.inl (by omega)) (.inl (by omega))).ext hx2) (On.off o2 (by rw [if_neg (by omega)]; omega) (.inl (by omega)) (.inl (by omega))))
    clear o1 o2 hg1 hz1 hz0
    go_wp2
    go_roundw
    case rel => exact ⟨k + 1, by omega, by go_num, hL⟩
    case measure => simp [intOf]; omega
  ·obtain rfl : k = N := by omega
   obtain ⟨A, c, B, e, hx, hp, hz, h1, oa, ob⟩ := hlr.out
   rw [if_neg (by omega)] at oa ob
   have OA := Lib.hid oa; have OB := Lib.hid ob; have EW := Lib.hid hx
   have hp0 := hp.lt
   obtain ⟨⟨a0, a1, a2, b0, b1, b2⟩, a3⟩ := hp
   obtain ⟨⟨r0, r1, r2, r3, r4, r5⟩, rz⟩ := hz
   have hpn := Nat.ne_of_lt h1; have hpn' := Nat.ne_of_gt h1
   clear hlr hx oa ob HN HW HS HD hlt
   go_wp2
   exact bodyPost_ret (v := ivd (slo D k) A c (shi D k) B e) (by simp [results, Tryz.results92, go_sem, r0, r1, r2, r3, r4, r5]) rfl (IvRes.end6 rfl OA.out.1 OB.out.1 EW.out (by omega) (by omega) (by omega))
end
section
section
open Go.RowKit
def S6 (w : World) (g : Nat) (v0 v1 v2 v3 v4 v5 : Value) : Prop := w.cell? ⟨g, 0, none⟩ = some v0 ∧ w.cell? ⟨g, 1, none⟩ = some v1 ∧ w.cell? ⟨g, 2, none⟩ = some v2 ∧ w.cell? ⟨g, 3, none⟩ = some v3 ∧ w.cell? ⟨g, 4, none⟩ = some v4 ∧ w.cell? ⟨g, 5, none⟩ = some v5
theorem S6.new (w : World) (v0 v1 v2 v3 v4 v5 : Value) (t : TypeId) : S6 (w.alloc (.cells #[v0, v1, v2, v3, v4, v5] t)) w.heap.size v0 v1 v2 v3 v4 v5 := (B6.new w v0 v1 v2 v3 v4 v5 t).1
def S12 (w : World) (g : Nat) (v0 v1 v2 v3 v4 v5 v6 v7 v8 v9 v10 v11 : Value) : Prop := S6 w g v0 v1 v2 v3 v4 v5 ∧ w.cell? ⟨g, 6, none⟩ = some v6 ∧ w.cell? ⟨g, 7, none⟩ = some v7 ∧ w.cell? ⟨g, 8, none⟩ = some v8 ∧ w.cell? ⟨g, 9, none⟩ = some v9 ∧ w.cell? ⟨g, 10, none⟩ = some v10 ∧ w.cell? ⟨g, 11, none⟩ = some v11
theorem S12.new (w : World) (v0 v1 v2 v3 v4 v5 v6 v7 v8 v9 v10 v11 : Value) (t : TypeId) : S12 (w.alloc (.cells #[v0, v1, v2, v3, v4, v5, v6, v7, v8, v9, v10, v11] t)) w.heap.size v0 v1 v2 v3 v4 v5 v6 v7 v8 v9 v10 v11 :=
 ⟨⟨by go_simp, by go_simp, by go_simp, by go_simp, by go_simp, by go_simp⟩, by go_simp, by go_simp, by go_simp, by go_simp, by go_simp, by go_simp⟩
def pk2 {α : Type} (a b : α) (i : Nat) : α := if i = 0 then a else b
def pk4 {α : Type} (a b c d : α) (i : Nat) : α := if i = 0 then a else if i = 1 then b else if i = 2 then c else d
theorem span2 {w : World} {n0 n1 : Bool} {A0 A0' A1 A1' : Option Addr} {k0 c0 c0' k1 c1 c1' : Nat} {d0 d1 : Int} {x y : DV} {g : Nat} (hx : Dy w n0 A0 k0 c0 d0 x A0' c0') (hy : Dy w n1 A1 k1 c1 d1 y A1' c1') (bx : Bdd x) (by' : Bdd y)
  (hs : S6 w g (.bool n0) (.slice A0 k0 c0) (I d0) (.bool n1) (.slice A1 k1 c1) (I d1)) : Calls Tryz.prog 92 #[.slice (some ⟨g, 0, none⟩) 2 2] w (IvRes (lo2 x y) (hi2 x y) w) := by
 obtain ⟨h0, h1, h2, h3, h4, h5⟩ := hs
 exact span_any (N := 1) (ng := pk2 n0 n1) (As := pk2 A0 A1) (A' := pk2 A0' A1') (ns := pk2 k0 k1) (cs := pk2 c0 c1) (c' := pk2 c0' c1') (dn := pk2 d0 d1) (D := pk2 x y) (g := g)
  (fun i hi => by
   obtain rfl | rfl : i = 0 ∨ i = 1 := by omega
   ·exact ⟨⟨h0, h1, h2⟩, hx⟩
   ·exact ⟨⟨h3, h4, h5⟩, hy⟩)
  (fun i hi => by
   obtain rfl | rfl : i = 0 ∨ i = 1 := by omega
   ·exact bx
   ·exact by') (World.block_lt_of_cell? w _ h0) (by omega) (by omega)
theorem span4 {w : World} {n0 n1 n2 n3 : Bool} {A0 A0' A1 A1' A2 A2' A3 A3' : Option Addr} {k0 c0 c0' k1 c1 c1' k2 c2 c2' k3 c3 c3' : Nat} {d0 d1 d2 d3 : Int} {x y z u : DV} {g : Nat} (hx : Dy w n0 A0 k0 c0 d0 x A0' c0') (hy : Dy w n1 A1 k1 c1 d1 y A1' c1') (hz : Dy w n2 A2 k2 c2 d2 z A2' c2') (hu : Dy w n3 A3 k3 c3 d3 u A3' c3') (bx : Bdd x) (by' : Bdd y) (bz : Bdd z) (bu : Bdd u)
  (hs : S12 w g (.bool n0) (.slice A0 k0 c0) (I d0) (.bool n1) (.slice A1 k1 c1) (I d1) (.bool n2) (.slice A2 k2 c2) (I d2) (.bool n3) (.slice A3 k3 c3) (I d3)) : Calls Tryz.prog 92 #[.slice (some ⟨g, 0, none⟩) 4 4] w (IvRes (lo4 x y z u) (hi4 x y z u) w) := by
 obtain ⟨⟨h0, h1, h2, h3, h4, h5⟩, h6, h7, h8, h9, h10, h11⟩ := hs
 exact span_any (N := 3) (ng := pk4 n0 n1 n2 n3) (As := pk4 A0 A1 A2 A3) (A' := pk4 A0' A1' A2' A3') (ns := pk4 k0 k1 k2 k3) (cs := pk4 c0 c1 c2 c3) (c' := pk4 c0' c1' c2' c3') (dn := pk4 d0 d1 d2 d3) (D := pk4 x y z u) (g := g)
  (fun i hi => by
   obtain rfl | rfl | rfl | rfl : i = 0 ∨ i = 1 ∨ i = 2 ∨ i = 3 := by omega
   ·exact ⟨⟨h0, h1, h2⟩, hx⟩
   ·exact ⟨⟨h3, h4, h5⟩, hy⟩
   ·exact ⟨⟨h6, h7, h8⟩, hz⟩
   ·exact ⟨⟨h9, h10, h11⟩, hu⟩)
  (fun i hi => by
   obtain rfl | rfl | rfl | rfl : i = 0 ∨ i = 1 ∨ i = 2 ∨ i = 3 := by omega
   ·exact bx
   ·exact by'
   ·exact bz
   ·exact bu) (World.block_lt_of_cell? w _ h0) (by omega) (by omega)
theorem bd_end {a : DV} (h : End a) : Bdd a := ⟨h.1, Nat.le_trans h.2 (by decide)⟩
theorem bd_mul {a x : DV} (h : len a.m ≤ 1048576) (k : len x.m ≤ 1048576) : Bdd (mulD a x) := ⟨mulD_ok _ _, by have := lim_mul a x; omega⟩
theorem bd_add {a x : DV} (h : End a) (k : End x) : Bdd (addD a x) := ⟨addD_ok _ _, by have := lim_add (a := a) (b := x) h.1.2.1 k.1.2.1; have := h.2; have := k.2; omega⟩
theorem Bdd.lim {a : DV} (h : Bdd a) : len a.m ≤ 16777216 := Nat.le_trans h.2 (by decide)
theorem bd_of (n : Int) (h1 : -9223372036854775808 ≤ n) (h2 : n ≤ 9223372036854775807) : Bdd (ofI n 0) := ⟨ofI_ok _ _, Nat.le_trans (len_mono (mkD_m_le _ _ _)) (Nat.le_trans (len_le (n := 2) (by unfold pB; omega)) (by decide))⟩
end
section
open Go.RowKit
attribute [local go_sem ↓] Go.wp_at_zero Go.wp_at_succ
set_option maxRecDepth 100000 in
set_option maxHeartbeats 1000000 in
theorem rimul_any {w : World} {n1 n2 : Bool} {A B A' B' : Option Addr} {k c m e c' e' : Nat} {d1 d2 : Int} {a b : DV} {n3 n4 : Bool} {X Y X' Y' : Option Addr} {p q r s q' s' : Nat} {d3 d4 : Int} {x y : DV} (ha : Iw w n1 A k c d1 n2 B m e d2 a b A' c' B' e') (hb : Iw w n3 X p q d3 n4 Y r s d4 x y X' q' Y' s') :
  Calls Tryz.prog 100 #[iv n1 A k c d1 n2 B m e d2, iv n3 X p q d3 n4 Y r s d4] w (IvRes (lo4 (mulD a x) (mulD a y) (mulD b x) (mulD b y)) (hi4 (mulD a x) (mulD a y) (mulD b x) (mulD b y)) w) := by
 obtain ⟨zp, hzp⟩ : ∃ z, mulD a x = z := ⟨_, rfl⟩
 have Wzp : Hid (Bdd zp) := by show Bdd _; rw [← hzp]; exact bd_mul ha.wa.2 hb.wa.2
 obtain ⟨zq, hzq⟩ : ∃ z, mulD a y = z := ⟨_, rfl⟩
 have Wzq : Hid (Bdd zq) := by show Bdd _; rw [← hzq]; exact bd_mul ha.wa.2 hb.wb.2
 obtain ⟨zu, hzu⟩ : ∃ z, mulD b x = z := ⟨_, rfl⟩
 have Wzu : Hid (Bdd zu) := by show Bdd _; rw [← hzu]; exact bd_mul ha.wb.2 hb.wa.2
 obtain ⟨zv, hzv⟩ : ∃ z, mulD b y = z := ⟨_, rfl⟩
 have Wzv : Hid (Bdd zv) := by show Bdd _; rw [← hzv]; exact bd_mul ha.wb.2 hb.wb.2
 rw [hzp, hzq, hzu, hzv]
 obtain ⟨L, hL⟩ : ∃ L, lo4 zp zq zu zv = L := ⟨_, rfl⟩
 obtain ⟨H, hH⟩ : ∃ H, hi4 zp zq zu zv = H := ⟨_, rfl⟩
 rw [hL, hH]
 have EL := Lib.hid hL; have EH := Lib.hid hH; have Ezp := Lib.hid hzp; have Ezq := Lib.hid hzq; have Ezu := Lib.hid hzu; have Ezv := Lib.hid hzv; clear hL hH hzp hzq hzu hzv
 have HA := Lib.hid ha; have HB := Lib.hid hb; clear ha hb
 obtain ⟨X0, X1, XZ, XE⟩ := boxes3 w n1 n2 A B k c m e d1 d2 n3 n4 X Y p q r s d3 d4
 have HX0 := Lib.hid X0; have HX1 := Lib.hid X1; have HXZ := Lib.hid XZ; have HXE := Lib.hid XE
 clear X0 X1 XZ XE
 go_enter Tryz.func100, Tryz.ntmps100
 go_upto_region 1 with fail
 go_cut [] (fun wx => TwoI w a b A' c' B' e' x y X' q' Y' s' wx)
 case first =>
  go_region_with (first
   | (go_at_call 79; (with_reducible refine (HA.out.nrm _ (HXE.out.trans ex2)).mono ?_); rintro e1 wa ⟨rfl, hxwa⟩; obtain ⟨⟨ak0, ak1, ak2, ak3, ak4, ak5⟩, akz⟩ := HX0.out.ext (w' := wa) ex2; obtain ⟨⟨al0, al1, al2, al3, al4, al5⟩, alz⟩ := HX1.out.ext (w' := wa) ex2)
   | (go_at_call 79; (with_reducible refine (HB.out.nrm _ (HXE.out.trans ex2)).mono ?_); rintro e1 wb ⟨rfl, hxwb⟩; obtain ⟨⟨bk0, bk1, bk2, bk3, bk4, bk5⟩, bkz⟩ := HX0.out.ext (w' := wb) ex2; obtain ⟨⟨bl0, bl1, bl2, bl3, bl4, bl5⟩, blz⟩ := HX1.out.ext (w' := wb) ex2))
  all_goals
   go_wp2_with fail
   go_meet
   exact twoI_of HX0.out HX1.out HXZ.out HXE.out ex2
 case rest =>
  clear HX0 HX1 HXZ HXE
  obtain ⟨hE, hX0, hX1, hXZ⟩ := hcut
  have HE := Lib.hid hE; have HX0 := Lib.hid hX0; have HX1 := Lib.hid hX1; have HXZ := Lib.hid hXZ
  clear hE hX0 hX1 hXZ
  have HS : Hid (∀ w', Ext wc w' → w'.cell? ⟨w.heap.size, 0, none⟩ = some (.bool a.neg) ∧ w'.cell? ⟨w.heap.size, 1, none⟩ = some (.slice A' (len a.m) c') ∧ w'.cell? ⟨w.heap.size, 2, none⟩ = some (I a.den) ∧ w'.cell? ⟨w.heap.size, 3, none⟩ = some (.bool b.neg) ∧ w'.cell? ⟨w.heap.size, 4, none⟩ = some (.slice B' (len b.m) e') ∧ w'.cell? ⟨w.heap.size, 5, none⟩ = some (I b.den) ∧ w'.cell? ⟨w.heap.size + 1, 0, none⟩ = some (.bool x.neg) ∧ w'.cell? ⟨w.heap.size + 1, 1, none⟩ = some (.slice X' (len x.m) q') ∧ w'.cell? ⟨w.heap.size + 1, 2, none⟩ = some (I x.den) ∧ w'.cell? ⟨w.heap.size + 1, 3, none⟩ = some (.bool y.neg) ∧ w'.cell? ⟨w.heap.size + 1, 4, none⟩ = some (.slice Y' (len y.m) s') ∧ w'.cell? ⟨w.heap.size + 1, 5, none⟩ = some (I y.den)) := fun w' e => by
   obtain ⟨⟨i0, i1, i2, i3, i4, i5⟩, iz⟩ := HX0.out.ext e
   obtain ⟨⟨j0, j1, j2, j3, j4, j5⟩, jz⟩ := HX1.out.ext e
   exact ⟨i0, i1, i2, i3, i4, i5, j0, j1, j2, j3, j4, j5⟩
  have HS2 : Hid (∀ w1 u0 u1 u2 u3 u4 u5, Ext wc w1 → ((((((w1.setCell ⟨w.heap.size + 1 + 1, 0, none⟩ u0).setCell ⟨w.heap.size + 1 + 1, 1, none⟩ u1).setCell ⟨w.heap.size + 1 + 1, 2, none⟩ u2).setCell ⟨w.heap.size + 1 + 1, 3, none⟩ u3).setCell ⟨w.heap.size + 1 + 1, 4, none⟩ u4).setCell ⟨w.heap.size + 1 + 1, 5, none⟩ u5).cell? ⟨w.heap.size, 0, none⟩ = some (.bool a.neg) ∧ ((((((w1.setCell ⟨w.heap.size + 1 + 1, 0, none⟩ u0).setCell ⟨w.heap.size + 1 + 1, 1, none⟩ u1).setCell ⟨w.heap.size + 1 + 1, 2, none⟩ u2).setCell ⟨w.heap.size + 1 + 1, 3, none⟩ u3).setCell ⟨w.heap.size + 1 + 1, 4, none⟩ u4).setCell ⟨w.heap.size + 1 + 1, 5, none⟩ u5).cell? ⟨w.heap.size, 1, none⟩ = some (.slice A' (len a.m) c') ∧ ((((((w1.setCell ⟨w.heap.size + 1 + 1, 0, none⟩ u0).setCell ⟨w.heap.size + 1 + 1, 1, none⟩ u1).setCell ⟨w.heap.size + 1 + 1, 2, none⟩ u2).setCell ⟨w.heap.size + 1 + 1, 3, none⟩ u3).setCell ⟨w.heap.size + 1 + 1, 4, none⟩ u4).setCell ⟨w.heap.size + 1 + 1, 5, none⟩ u5).cell? ⟨w.heap.size, 2, none⟩ = some (I a.den) ∧ ((((((w1.setCell ⟨w.heap.size + 1 + 1, 0, none⟩ u0).setCell ⟨w.heap.size + 1 + 1, 1, none⟩ u1).setCell ⟨w.heap.size + 1 + 1, 2, none⟩ u2).setCell ⟨w.heap.size + 1 + 1, 3, none⟩ u3).setCell ⟨w.heap.size + 1 + 1, 4, none⟩ u4).setCell ⟨w.heap.size + 1 + 1, 5, none⟩ u5).cell? ⟨w.heap.size, 3, none⟩ = some (.bool b.neg) ∧ ((((((w1.setCell ⟨w.heap.size + 1 + 1, 0, none⟩ u0).setCell ⟨w.heap.size + 1 + 1, 1, none⟩ u1).setCell ⟨w.heap.size + 1 + 1, 2, none⟩ u2).setCell ⟨w.heap.size + 1 + 1, 3, none⟩ u3).setCell ⟨w.heap.size + 1 + 1, 4, none⟩ u4).setCell ⟨w.heap.size + 1 + 1, 5, none⟩ u5).cell? ⟨w.heap.size, 4, none⟩ = some (.slice B' (len b.m) e') ∧ ((((((w1.setCell ⟨w.heap.size + 1 + 1, 0, none⟩ u0).setCell ⟨w.heap.size + 1 + 1, 1, none⟩ u1).setCell ⟨w.heap.size + 1 + 1, 2, none⟩ u2).setCell ⟨w.heap.size + 1 + 1, 3, none⟩ u3).setCell ⟨w.heap.size + 1 + 1, 4, none⟩ u4).setCell ⟨w.heap.size + 1 + 1, 5, none⟩ u5).cell? ⟨w.heap.size, 5, none⟩ = some (I b.den) ∧ ((((((w1.setCell ⟨w.heap.size + 1 + 1, 0, none⟩ u0).setCell ⟨w.heap.size + 1 + 1, 1, none⟩ u1).setCell ⟨w.heap.size + 1 + 1, 2, none⟩ u2).setCell ⟨w.heap.size + 1 + 1, 3, none⟩ u3).setCell ⟨w.heap.size + 1 + 1, 4, none⟩ u4).setCell ⟨w.heap.size + 1 + 1, 5, none⟩ u5).cell? ⟨w.heap.size + 1, 0, none⟩ = some (.bool x.neg) ∧ ((((((w1.setCell ⟨w.heap.size + 1 + 1, 0, none⟩ u0).setCell ⟨w.heap.size + 1 + 1, 1, none⟩ u1).setCell ⟨w.heap.size + 1 + 1, 2, none⟩ u2).setCell ⟨w.heap.size + 1 + 1, 3, none⟩ u3).setCell ⟨w.heap.size + 1 + 1, 4, none⟩ u4).setCell ⟨w.heap.size + 1 + 1, 5, none⟩ u5).cell? ⟨w.heap.size + 1, 1, none⟩ = some (.slice X' (len x.m) q') ∧ ((((((w1.setCell ⟨w.heap.size + 1 + 1, 0, none⟩ u0).setCell ⟨w.heap.size + 1 + 1, 1, none⟩ u1).setCell ⟨w.heap.size + 1 + 1, 2, none⟩ u2).setCell ⟨w.heap.size + 1 + 1, 3, none⟩ u3).setCell ⟨w.heap.size + 1 + 1, 4, none⟩ u4).setCell ⟨w.heap.size + 1 + 1, 5, none⟩ u5).cell? ⟨w.heap.size + 1, 2, none⟩ = some (I x.den) ∧ ((((((w1.setCell ⟨w.heap.size + 1 + 1, 0, none⟩ u0).setCell ⟨w.heap.size + 1 + 1, 1, none⟩ u1).setCell ⟨w.heap.size + 1 + 1, 2, none⟩ u2).setCell ⟨w.heap.size + 1 + 1, 3, none⟩ u3).setCell ⟨w.heap.size + 1 + 1, 4, none⟩ u4).setCell ⟨w.heap.size + 1 + 1, 5, none⟩ u5).cell? ⟨w.heap.size + 1, 3, none⟩ = some (.bool y.neg) ∧ ((((((w1.setCell ⟨w.heap.size + 1 + 1, 0, none⟩ u0).setCell ⟨w.heap.size + 1 + 1, 1, none⟩ u1).setCell ⟨w.heap.size + 1 + 1, 2, none⟩ u2).setCell ⟨w.heap.size + 1 + 1, 3, none⟩ u3).setCell ⟨w.heap.size + 1 + 1, 4, none⟩ u4).setCell ⟨w.heap.size + 1 + 1, 5, none⟩ u5).cell? ⟨w.heap.size + 1, 4, none⟩ = some (.slice Y' (len y.m) s') ∧ ((((((w1.setCell ⟨w.heap.size + 1 + 1, 0, none⟩ u0).setCell ⟨w.heap.size + 1 + 1, 1, none⟩ u1).setCell ⟨w.heap.size + 1 + 1, 2, none⟩ u2).setCell ⟨w.heap.size + 1 + 1, 3, none⟩ u3).setCell ⟨w.heap.size + 1 + 1, 4, none⟩ u4).setCell ⟨w.heap.size + 1 + 1, 5, none⟩ u5).cell? ⟨w.heap.size + 1, 5, none⟩ = some (I y.den)) := fun w1 u0 u1 u2 u3 u4 u5 e => by
   obtain ⟨⟨i0, i1, i2, i3, i4, i5⟩, iz⟩ := (HX0.out.ext e).far6 (g' := w.heap.size + 1 + 1) (by omega) u0 u1 u2 u3 u4 u5
   obtain ⟨⟨j0, j1, j2, j3, j4, j5⟩, jz⟩ := (HX1.out.ext e).far6 (g' := w.heap.size + 1 + 1) (by omega) u0 u1 u2 u3 u4 u5
   exact ⟨i0, i1, i2, i3, i4, i5, j0, j1, j2, j3, j4, j5⟩
  have hlx := HXZ.out.lt; have hnx := Nat.ne_of_lt hlx; have hq1 : ¬ w.heap.size + 1 + 1 = w.heap.size := (by omega); have hq2 : ¬ w.heap.size = w.heap.size + 1 + 1 := (by omega)
  go_wp2_with fail
  go_region_held3 (fun w' => w'.cell? ⟨w.heap.size, 0, none⟩ = some (.bool a.neg) ∧ w'.cell? ⟨w.heap.size, 1, none⟩ = some (.slice A' (len a.m) c') ∧ w'.cell? ⟨w.heap.size, 2, none⟩ = some (I a.den) ∧ w'.cell? ⟨w.heap.size, 3, none⟩ = some (.bool b.neg) ∧ w'.cell? ⟨w.heap.size, 4, none⟩ = some (.slice B' (len b.m) e') ∧ w'.cell? ⟨w.heap.size, 5, none⟩ = some (I b.den) ∧ w'.cell? ⟨w.heap.size + 1, 0, none⟩ = some (.bool x.neg) ∧ w'.cell? ⟨w.heap.size + 1, 1, none⟩ = some (.slice X' (len x.m) q') ∧ w'.cell? ⟨w.heap.size + 1, 2, none⟩ = some (I x.den) ∧ w'.cell? ⟨w.heap.size + 1, 3, none⟩ = some (.bool y.neg) ∧ w'.cell? ⟨w.heap.size + 1, 4, none⟩ = some (.slice Y' (len y.m) s') ∧ w'.cell? ⟨w.heap.size + 1, 5, none⟩ = some (I y.den)) (first | with_reducible assumption | exact HS.out _ ex2 | exact HS2.out _ _ _ _ _ _ _ ex2)
   (first
    | (have hg := hx4; clear hg; go_at_call 92; (with_reducible refine (span4 (D1.out.ext ex2) (D2.out.ext ex2) (D3.out.ext ex2) (D4.out.ext ex2) Wzp.out Wzq.out Wzu.out Wzv.out (S12.new _ _ _ _ _ _ _ _ _ _ _ _ _ _)).mono ?_); rw [EL.out, EH.out]; rintro e1 w5 ⟨A5, c5, B5, k5, rfl, hfa, hfb, hx5⟩; have FA := Lib.hid hfa; have FB := Lib.hid hfb; clear hfa hfb; obtain ⟨⟨r0, r1, r2, r3, r4, r5⟩, rz⟩ := HXZ.out.ext (w' := w5) ex2)
    | (have hg := hx3; clear hg; go_at_call 25; (with_reducible refine (rmul_any (HA.out.dyb.ext (HE.out.trans ex2)) (HB.out.dyb.ext (HE.out.trans ex2))).mono ?_); rw [Ezv.out]; rintro e1 w4 ⟨A4, c4, rfl, hon, hx4⟩; have D4 := Lib.hid (Dy.of_on hon Wzv.out.1 Wzv.out.lim (Ext.refl _)); clear hon)
    | (have hg := hx2; clear hg; go_at_call 25; (with_reducible refine (rmul_any (HA.out.dyb.ext (HE.out.trans ex2)) (HB.out.dya.ext (HE.out.trans ex2))).mono ?_); rw [Ezu.out]; rintro e1 w3 ⟨A3, c3, rfl, hon, hx3⟩; have D3 := Lib.hid (Dy.of_on hon Wzu.out.1 Wzu.out.lim (Ext.refl _)); clear hon)
    | (have hg := hx1; clear hg; go_at_call 25; (with_reducible refine (rmul_any (HA.out.dya.ext (HE.out.trans ex2)) (HB.out.dyb.ext (HE.out.trans ex2))).mono ?_); rw [Ezq.out]; rintro e1 w2 ⟨A2, c2, rfl, hon, hx2⟩; have D2 := Lib.hid (Dy.of_on hon Wzq.out.1 Wzq.out.lim (Ext.refl _)); clear hon)
    | (go_at_call 25; (with_reducible refine (rmul_any (HA.out.dya.ext (HE.out.trans ex2)) (HB.out.dya.ext (HE.out.trans ex2))).mono ?_); rw [Ezp.out]; rintro e1 w1 ⟨A1, c1, rfl, hon, hx1⟩; have D1 := Lib.hid (Dy.of_on hon Wzp.out.1 Wzp.out.lim (Ext.refl _)); clear hon))
  all_goals
   have HF := Lib.hid (HE.out.trans (show Ext wc w5 from ex2))
   have hz2 := Ext.size (show Ext wc w4 from ex2)
   go_wp2_with fail
   exact bodyPost_ret (v := ivd L A5 c5 H B5 k5) (by simp [results, Tryz.results100, go_sem, r0, r1, r2, r3, r4, r5]) rfl (IvRes.end6 rfl FA.out FB.out HF.out (by omega) (by (try simp); omega) (by (try simp); omega))
end
section
open Go.RowKit
attribute [local go_sem ↓] Go.wp_at_zero Go.wp_at_succ
theorem lo4_pp (p q : DV) : lo4 p p q q = lo2 p q := by
 unfold lo4 lo2; rw [minD_self]
 by_cases h : 0 < cmpD p q
 ·rw [show minD p q = q by unfold minD; rw [if_pos h], minD_self]
 ·rw [show minD p q = p by unfold minD; rw [if_neg h]]; unfold minD; rw [if_neg h]
theorem hi4_pp (p q : DV) : hi4 p p q q = hi2 p q := by
 unfold hi4 hi2; rw [maxD_self]
 by_cases h : cmpD p q < 0
 ·rw [show maxD p q = q by unfold maxD; rw [if_pos h], maxD_self]
 ·rw [show maxD p q = p by unfold maxD; rw [if_neg h]]; unfold maxD; rw [if_neg h]
set_option maxRecDepth 100000 in
set_option maxHeartbeats 1000000 in
theorem riscale_any {w : World} {n1 n2 : Bool} {A B A' B' : Option Addr} {k c m e c' e' : Nat} {d1 d2 : Int} {a b : DV} {n3 : Bool} {X X' : Option Addr} {p q q' : Nat} {d3 : Int} {x : DV} (ha : Iw w n1 A k c d1 n2 B m e d2 a b A' c' B' e') (hb : Dy w n3 X p q d3 x X' q') (hl : len x.m ≤ 1048576) :
  Calls Tryz.prog 99 #[iv n1 A k c d1 n2 B m e d2, dv n3 X p q d3] w (IvRes (lo2 (mulD a x) (mulD b x)) (hi2 (mulD a x) (mulD b x)) w) := by
 rw [← lo4_pp, ← hi4_pp]
 obtain ⟨L, hL⟩ : ∃ L, lo4 (mulD a x) (mulD a x) (mulD b x) (mulD b x) = L := ⟨_, rfl⟩
 obtain ⟨H, hH⟩ : ∃ H, hi4 (mulD a x) (mulD a x) (mulD b x) (mulD b x) = H := ⟨_, rfl⟩
 rw [hL, hH]
 have EL := Lib.hid hL; have EH := Lib.hid hH; clear hL hH
 have HP : Hid (∀ w', Ext w w' → Iw w' x.neg X' (len x.m) q' x.den x.neg X' (len x.m) q' x.den x x X' q' X' q') := fun w' e => iv_ok (hb.rd.ext e) hb.sl ⟨hb.wf, hl⟩ (hb.rd.ext e) hb.sl ⟨hb.wf, hl⟩ (by grind)
 have HA := Lib.hid ha; have HB := Lib.hid hb; clear ha hb hl
 obtain ⟨X0, X1, XZ, XE⟩ := boxesNZ w n1 n2 A B k c m e d1 d2 n3 X p q d3
 have HX0 := Lib.hid X0; have HX1 := Lib.hid X1; have HXZ := Lib.hid XZ; have HE := Lib.hid XE
 clear X0 X1 XE XZ
 generalize hWc : ((w.alloc (.cells #[.bool n1, .slice A k c, I d1, .bool n2, .slice B m e, I d2] 58)).alloc (.cells #[.bool n3, .slice X p q, I d3] 56)).alloc (.cells #[.bool false, .slice none 0 0, I 0, .bool false, .slice none 0 0, I 0] 58) = wc at HX0 HX1 HXZ HE
 go_enter Tryz.func99, Tryz.ntmps99
 go_upto_region 1 with fail
 (try rw [hWc])
 clear hWc
 have HS : Hid (∀ w', Ext wc w' → w'.cell? ⟨w.heap.size, 0, none⟩ = some (.bool n1) ∧ w'.cell? ⟨w.heap.size, 1, none⟩ = some (.slice A k c) ∧ w'.cell? ⟨w.heap.size, 2, none⟩ = some (I d1) ∧ w'.cell? ⟨w.heap.size, 3, none⟩ = some (.bool n2) ∧ w'.cell? ⟨w.heap.size, 4, none⟩ = some (.slice B m e) ∧ w'.cell? ⟨w.heap.size, 5, none⟩ = some (I d2) ∧ w'.cell? ⟨w.heap.size + 1, 0, none⟩ = some (.bool n3) ∧ w'.cell? ⟨w.heap.size + 1, 1, none⟩ = some (.slice X p q) ∧ w'.cell? ⟨w.heap.size + 1, 2, none⟩ = some (I d3)) := fun w' e => by
  obtain ⟨⟨i0, i1, i2, i3, i4, i5⟩, iz⟩ := HX0.out.ext e
  obtain ⟨⟨j0, j1, j2⟩, jz⟩ := HX1.out.ext e
  exact ⟨i0, i1, i2, i3, i4, i5, j0, j1, j2⟩
 have HS2 : Hid (∀ w1 u0 u1 u2 u3 u4 u5, Ext wc w1 → ((((((w1.setCell ⟨w.heap.size + 1 + 1, 0, none⟩ u0).setCell ⟨w.heap.size + 1 + 1, 1, none⟩ u1).setCell ⟨w.heap.size + 1 + 1, 2, none⟩ u2).setCell ⟨w.heap.size + 1 + 1, 3, none⟩ u3).setCell ⟨w.heap.size + 1 + 1, 4, none⟩ u4).setCell ⟨w.heap.size + 1 + 1, 5, none⟩ u5).cell? ⟨w.heap.size, 0, none⟩ = some (.bool n1) ∧ ((((((w1.setCell ⟨w.heap.size + 1 + 1, 0, none⟩ u0).setCell ⟨w.heap.size + 1 + 1, 1, none⟩ u1).setCell ⟨w.heap.size + 1 + 1, 2, none⟩ u2).setCell ⟨w.heap.size + 1 + 1, 3, none⟩ u3).setCell ⟨w.heap.size + 1 + 1, 4, none⟩ u4).setCell ⟨w.heap.size + 1 + 1, 5, none⟩ u5).cell? ⟨w.heap.size, 1, none⟩ = some (.slice A k c) ∧ ((((((w1.setCell ⟨w.heap.size + 1 + 1, 0, none⟩ u0).setCell ⟨w.heap.size + 1 + 1, 1, none⟩ u1).setCell ⟨w.heap.size + 1 + 1, 2, none⟩ u2).setCell ⟨w.heap.size + 1 + 1, 3, none⟩ u3).setCell ⟨w.heap.size + 1 + 1, 4, none⟩ u4).setCell ⟨w.heap.size + 1 + 1, 5, none⟩ u5).cell? ⟨w.heap.size, 2, none⟩ = some (I d1) ∧ ((((((w1.setCell ⟨w.heap.size + 1 + 1, 0, none⟩ u0).setCell ⟨w.heap.size + 1 + 1, 1, none⟩ u1).setCell ⟨w.heap.size + 1 + 1, 2, none⟩ u2).setCell ⟨w.heap.size + 1 + 1, 3, none⟩ u3).setCell ⟨w.heap.size + 1 + 1, 4, none⟩ u4).setCell ⟨w.heap.size + 1 + 1, 5, none⟩ u5).cell? ⟨w.heap.size, 3, none⟩ = some (.bool n2) ∧ ((((((w1.setCell ⟨w.heap.size + 1 + 1, 0, none⟩ u0).setCell ⟨w.heap.size + 1 + 1, 1, none⟩ u1).setCell ⟨w.heap.size + 1 + 1, 2, none⟩ u2).setCell ⟨w.heap.size + 1 + 1, 3, none⟩ u3).setCell ⟨w.heap.size + 1 + 1, 4, none⟩ u4).setCell ⟨w.heap.size + 1 + 1, 5, none⟩ u5).cell? ⟨w.heap.size, 4, none⟩ = some (.slice B m e) ∧ ((((((w1.setCell ⟨w.heap.size + 1 + 1, 0, none⟩ u0).setCell ⟨w.heap.size + 1 + 1, 1, none⟩ u1).setCell ⟨w.heap.size + 1 + 1, 2, none⟩ u2).setCell ⟨w.heap.size + 1 + 1, 3, none⟩ u3).setCell ⟨w.heap.size + 1 + 1, 4, none⟩ u4).setCell ⟨w.heap.size + 1 + 1, 5, none⟩ u5).cell? ⟨w.heap.size, 5, none⟩ = some (I d2) ∧ ((((((w1.setCell ⟨w.heap.size + 1 + 1, 0, none⟩ u0).setCell ⟨w.heap.size + 1 + 1, 1, none⟩ u1).setCell ⟨w.heap.size + 1 + 1, 2, none⟩ u2).setCell ⟨w.heap.size + 1 + 1, 3, none⟩ u3).setCell ⟨w.heap.size + 1 + 1, 4, none⟩ u4).setCell ⟨w.heap.size + 1 + 1, 5, none⟩ u5).cell? ⟨w.heap.size + 1, 0, none⟩ = some (.bool n3) ∧ ((((((w1.setCell ⟨w.heap.size + 1 + 1, 0, none⟩ u0).setCell ⟨w.heap.size + 1 + 1, 1, none⟩ u1).setCell ⟨w.heap.size + 1 + 1, 2, none⟩ u2).setCell ⟨w.heap.size + 1 + 1, 3, none⟩ u3).setCell ⟨w.heap.size + 1 + 1, 4, none⟩ u4).setCell ⟨w.heap.size + 1 + 1, 5, none⟩ u5).cell? ⟨w.heap.size + 1, 1, none⟩ = some (.slice X p q) ∧ ((((((w1.setCell ⟨w.heap.size + 1 + 1, 0, none⟩ u0).setCell ⟨w.heap.size + 1 + 1, 1, none⟩ u1).setCell ⟨w.heap.size + 1 + 1, 2, none⟩ u2).setCell ⟨w.heap.size + 1 + 1, 3, none⟩ u3).setCell ⟨w.heap.size + 1 + 1, 4, none⟩ u4).setCell ⟨w.heap.size + 1 + 1, 5, none⟩ u5).cell? ⟨w.heap.size + 1, 2, none⟩ = some (I d3)) := fun w1 u0 u1 u2 u3 u4 u5 e => by
  obtain ⟨⟨i0, i1, i2, i3, i4, i5⟩, iz⟩ := (HX0.out.ext e).far6 (g' := w.heap.size + 1 + 1) (by omega) u0 u1 u2 u3 u4 u5
  obtain ⟨⟨j0, j1, j2⟩, jz⟩ := (HX1.out.ext e).far6 (g' := w.heap.size + 1 + 1) (by omega) u0 u1 u2 u3 u4 u5
  exact ⟨i0, i1, i2, i3, i4, i5, j0, j1, j2⟩
 have hlx := HXZ.out.lt; have hnx := Nat.ne_of_lt hlx; have hq1 : ¬ w.heap.size + 1 + 1 = w.heap.size := (by omega); have hq2 : ¬ w.heap.size = w.heap.size + 1 + 1 := (by omega)
 go_region_held3 (fun w' => w'.cell? ⟨w.heap.size, 0, none⟩ = some (.bool n1) ∧ w'.cell? ⟨w.heap.size, 1, none⟩ = some (.slice A k c) ∧ w'.cell? ⟨w.heap.size, 2, none⟩ = some (I d1) ∧ w'.cell? ⟨w.heap.size, 3, none⟩ = some (.bool n2) ∧ w'.cell? ⟨w.heap.size, 4, none⟩ = some (.slice B m e) ∧ w'.cell? ⟨w.heap.size, 5, none⟩ = some (I d2) ∧ w'.cell? ⟨w.heap.size + 1, 0, none⟩ = some (.bool n3) ∧ w'.cell? ⟨w.heap.size + 1, 1, none⟩ = some (.slice X p q) ∧ w'.cell? ⟨w.heap.size + 1, 2, none⟩ = some (I d3)) (first | with_reducible assumption | exact HS.out _ ex2 | exact HS2.out _ _ _ _ _ _ _ ex2)
  (first
   | (have hg := hx1; clear hg; go_at_call 100; (with_reducible refine (rimul_any (HA.out.ext (HE.out.trans ex2)) (HP.out _ (HE.out.trans ex2))).mono ?_); rw [EL.out, EH.out]; rintro e1 w2 ⟨A2, c2, B2, k2, rfl, hfa, hfb, hx2⟩; have FA := Lib.hid hfa; have FB := Lib.hid hfb; clear hfa hfb; obtain ⟨⟨r0, r1, r2, r3, r4, r5⟩, rz⟩ := HXZ.out.ext (w' := w2) ex2)
   | (go_at_call 96; (with_reducible refine (rpoint_any (HB.out.ext (HE.out.trans ex2))).mono ?_); rintro e1 w1 ⟨rfl, hx1⟩))
 all_goals
  have HF := Lib.hid (HE.out.trans (show Ext wc w2 from ex2))
  have hz2 := Ext.size (show Ext wc w1 from ex2)
  go_wp2_with fail
  exact bodyPost_ret (v := ivd L A2 c2 H B2 k2) (by simp [results, Tryz.results99, go_sem, r0, r1, r2, r3, r4, r5]) rfl (IvRes.end6 rfl FA.out FB.out HF.out (by omega) (by (try simp); omega) (by (try simp); omega))
end
end
end Go.Proofs.YtgnngldlgcdnfaaGreatDoor
