import Derived.Test.YtgnngldlgcdnfaaGreatDoorQam
import Derived.Deep.RegionHeld3
import Derived.Deep.DeepCutAuto
namespace Go.Proofs.YtgnngldlgcdnfaaGreatDoor
open Go.RowKit
def Nth (w : World) (g i : Nat) (n : Bool) (A : Option Addr) (k c : Nat) (d : Int) (x : DV) (A' : Option Addr) (c' : Nat) : Prop :=
 (w.cell? ⟨g, i * 3, none⟩ = some (.bool n) ∧ w.cell? ⟨g, i * 3 + 1, none⟩ = some (.slice A k c) ∧ w.cell? ⟨g, i * 3 + 2, none⟩ = some (I d)) ∧ Dy w n A k c d x A' c'
def Off (w : World) (base p q : Nat) (A : Option Addr) (n c : Nat) (f : Nat → Nat) : Prop := Fr w base A n c f ∧ (0 < n → ∀ a, A = some a → a.block ≠ p ∧ a.block ≠ q)
theorem Off.ext {w w' : World} {base p q n c : Nat} {A : Option Addr} {f : Nat → Nat} (h : Off w base p q A n c f) (e : Ext w w') : Off w' base p q A n c f := ⟨h.1.ext e, h.2⟩
theorem Off.toAlloc {w : World} {o : Obj} {base p q n c : Nat} {A : Option Addr} {f : Nat → Nat} (h : Off w base p q A n c f) : Off (w.alloc o) base p q A n c f := h.ext (Ext.alloc _ _)
theorem Off.setp {w : World} {base p q n c : Nat} {A : Option Addr} {f : Nat → Nat} (h : Off w base p q A n c f) (i : Nat) (u : Value) : Off (w.setCell ⟨p, i, none⟩ u) base p q A n c f :=
 ⟨⟨h.1.1.set' (fun hn a ha => (h.2 hn a ha).1) i u, h.1.2⟩, h.2⟩
theorem Off.setq {w : World} {base p q n c : Nat} {A : Option Addr} {f : Nat → Nat} (h : Off w base p q A n c f) (i : Nat) (u : Value) : Off (w.setCell ⟨q, i, none⟩ u) base p q A n c f :=
 ⟨⟨h.1.1.set' (fun hn a ha => (h.2 hn a ha).2) i u, h.1.2⟩, h.2⟩
theorem Off.set3p {w : World} {base p q n c : Nat} {A : Option Addr} {f : Nat → Nat} (h : Off w base p q A n c f) (u0 u1 u2 : Value) : Off (((w.setCell ⟨p, 0, none⟩ u0).setCell ⟨p, 1, none⟩ u1).setCell ⟨p, 2, none⟩ u2) base p q A n c f := ((h.setp _ _).setp _ _).setp _ _
theorem Off.set3q {w : World} {base p q n c : Nat} {A : Option Addr} {f : Nat → Nat} (h : Off w base p q A n c f) (u0 u1 u2 : Value) : Off (((w.setCell ⟨q, 0, none⟩ u0).setCell ⟨q, 1, none⟩ u1).setCell ⟨q, 2, none⟩ u2) base p q A n c f := ((h.setq _ _).setq _ _).setq _ _
theorem On.off {w : World} {b base p q n c : Nat} {A : Option Addr} {f : Nat → Nat} (h : On w b A n c f) (hb : base ≤ b) (hp : p < b ∨ w.heap.size ≤ p) (hq : q < b ∨ w.heap.size ≤ q) : Off w base p q A n c f := by
 refine ⟨h.fr.mono hb, fun hn a ha => ?_⟩
 have h1 := h.fr.2.2 hn a ha
 obtain ⟨b', o, e, hb', _⟩ := h.rd hn
 rw [e] at ha
 injection ha with ha
 subst ha
 have h2 : b' < w.heap.size := hb'
 have h3 : b ≤ b' := h1
 exact ⟨by show b' ≠ p; omega, by show b' ≠ q; omega⟩
theorem B6.far3 {w : World} {g g' : Nat} {v0 v1 v2 v3 v4 v5 : Value} (h : B6 w g v0 v1 v2 v3 v4 v5) (hne : g' ≠ g) (u0 u1 u2 : Value) : B6 (((w.setCell ⟨g', 0, none⟩ u0).setCell ⟨g', 1, none⟩ u1).setCell ⟨g', 2, none⟩ u2) g v0 v1 v2 v3 v4 v5 := by
 obtain ⟨⟨h0, h1, h2, h3, h4, h5⟩, hf⟩ := h
 have o (i : Nat) {v : Value} (hv : w.cell? ⟨g, i, none⟩ = some v) : (((w.setCell ⟨g', 0, none⟩ u0).setCell ⟨g', 1, none⟩ u1).setCell ⟨g', 2, none⟩ u2).cell? ⟨g, i, none⟩ = some v := by
  rw [World.cell?_setCell_other _ _ _ _ (by intro e; injection e with e; exact hne e), World.cell?_setCell_other _ _ _ _ (by intro e; injection e with e; exact hne e), World.cell?_setCell_other _ _ _ _ (by intro e; injection e with e; exact hne e)]
  exact hv
 exact ⟨⟨o _ h0, o _ h1, o _ h2, o _ h3, o _ h4, o _ h5⟩, fun i => by simp [hf i]⟩
def Lst (w wx : World) (p q : Nat) (lo hi : DV) : Prop := ∃ A c B e,
 Ext w wx ∧ Bx wx p (.bool lo.neg) (.slice A (len lo.m) c) (I lo.den) ∧ Bx wx q (.bool hi.neg) (.slice B (len hi.m) e) (I hi.den) ∧
 B6 wx (w.heap.size + 1) (.bool false) (.slice none 0 0) (I 0) (.bool false) (.slice none 0 0) (I 0) ∧ p ≠ q ∧ w.heap.size + 1 < p ∧ w.heap.size + 1 < q ∧
 Off wx (w.heap.size + 2) p q A (len lo.m) c (dg lo.m) ∧ Off wx (w.heap.size + 2) p q B (len hi.m) e (dg hi.m)
theorem lst_of {w W : World} {p q : Nat} {lo hi : DV} {A B : Option Addr} {c e : Nat} {a0 a1 a2 b0 b1 b2 : Value} (hx : Ext w W) (hp : Bx W p a0 a1 a2) (hq : Bx W q b0 b1 b2)
  (hz : B6 W (w.heap.size + 1) (.bool false) (.slice none 0 0) (I 0) (.bool false) (.slice none 0 0) (I 0)) (hne : p ≠ q) (h1 : w.heap.size + 1 < p) (h2 : w.heap.size + 1 < q)
  (ha : Off W (w.heap.size + 2) p q A (len lo.m) c (dg lo.m)) (hb : Off W (w.heap.size + 2) p q B (len hi.m) e (dg hi.m)) :
  Lst w ((((((W.setCell ⟨p, 0, none⟩ (.bool lo.neg)).setCell ⟨p, 1, none⟩ (.slice A (len lo.m) c)).setCell ⟨p, 2, none⟩ (I lo.den)).setCell ⟨q, 0, none⟩ (.bool hi.neg)).setCell ⟨q, 1, none⟩ (.slice B (len hi.m) e)).setCell ⟨q, 2, none⟩ (I hi.den)) p q lo hi :=
 ⟨A, c, B, e, ext_set3 (ext_set3 hx (by omega) _ _ _) (by omega) _ _ _, (hp.set3 _ _ _).far3 (Ne.symm hne) _ _ _, (hq.far3 hne _ _ _).set3 _ _ _, (hz.far3 (by omega) _ _ _).far3 (by omega) _ _ _, hne, h1, h2,
  (ha.set3p _ _ _).set3q _ _ _, (hb.set3p _ _ _).set3q _ _ _⟩
set_option maxRecDepth 100000 in
set_option maxHeartbeats 60000000 in
theorem least_any {w : World} {n0 : Bool} {A0 A0' : Option Addr} {k0 c0 c0' : Nat} {d0 : Int} {x : DV} (hx0 : Dy w n0 A0 k0 c0 d0 x A0' c0') (hT : Tabs w) {g N cap : Nat} {ng : Nat → Bool} {As A' : Nat → Option Addr} {ns cs c' : Nat → Nat} {dn : Nat → Int} {D : Nat → DV}
  (hN : ∀ i, i < N → Nth w g i (ng i) (As i) (ns i) (cs i) (dn i) (D i) (A' i) (c' i)) (hg : g < w.heap.size) (hL : N ≤ 1000) :
  Calls Tryz.prog 182 #[dv n0 A0 k0 c0 d0, .slice (some ⟨g, 0, none⟩) N cap] w (IvRes (loF x D N) (hiF x D N) w) := by
 have HX := Lib.hid hx0; have HN := Lib.hid hN; have HT := Lib.hid hT; clear hx0 hN hT
 have H0 : Hid (minD x x = loF x D 0 ∧ maxD x x = hiF x D 0) := ⟨rfl, rfl⟩
 have HS : Hid (∀ k, minD (loF x D k) (D k) = loF x D (k + 1) ∧ maxD (hiF x D k) (D k) = hiF x D (k + 1)) := fun k => ⟨rfl, rfl⟩
 have HW : Hid (∀ k, k ≤ N → (loF x D k).ok ∧ len (loF x D k).m ≤ 16777216 ∧ (hiF x D k).ok ∧ len (hiF x D k).m ≤ 16777216) := by
  intro k hk
  have hl : ∀ k, k ≤ N → len (loF x D k).m ≤ 16777216 ∧ len (hiF x D k).m ≤ 16777216 := by
   intro k
   induction k with
   | zero => intro _; rw [show loF x D 0 = minD x x from rfl, show hiF x D 0 = maxD x x from rfl, minD_self, maxD_self]; exact ⟨HX.out.lim, HX.out.lim⟩
   | succ k ih =>
    intro h
    obtain ⟨i1, i2⟩ := ih (by omega)
    exact ⟨sz_min (P := fun d => len d.m ≤ 16777216) i1 (HN.out k (by omega)).2.lim, sz_max (P := fun d => len d.m ≤ 16777216) i2 (HN.out k (by omega)).2.lim⟩
  exact ⟨(lo_facts HX.out.wf k (fun i hi => (HN.out i (by omega)).2.wf)).1, (hl k hk).1, (hi_facts HX.out.wf k (fun i hi => (HN.out i (by omega)).2.wf)).1, (hl k hk).2⟩
 have B0 := Lib.hid ((Bx.new w (.bool n0) (.slice A0 k0 c0) (I d0) 56).ext (Ext.alloc _ (.cells #[.bool false, .slice none 0 0, I 0, .bool false, .slice none 0 0, I 0] 58)))
 have B1 : Hid (B6 ((w.alloc (.cells #[.bool n0, .slice A0 k0 c0, I d0] 56)).alloc (.cells #[.bool false, .slice none 0 0, I 0, .bool false, .slice none 0 0, I 0] 58)) (w.heap.size + 1) (.bool false) (.slice none 0 0) (I 0) (.bool false) (.slice none 0 0) (I 0)) := by
  have s := B6.new (w.alloc (.cells #[.bool n0, .slice A0 k0 c0, I d0] 56)) (.bool false) (.slice none 0 0) (I 0) (.bool false) (.slice none 0 0) (I 0) 58
  rw [show (w.alloc (.cells #[.bool n0, .slice A0 k0 c0, I d0] 56)).heap.size = w.heap.size + 1 by simp] at s
  exact s
 have E1 : Hid (Ext w ((w.alloc (.cells #[.bool n0, .slice A0 k0 c0, I d0] 56)).alloc (.cells #[.bool false, .slice none 0 0, I 0, .bool false, .slice none 0 0, I 0] 58))) := (Ext.alloc _ _).trans (Ext.alloc _ _)
 go_enter Tryz.func182, Tryz.ntmps182
 go_upto_region 1 with fail
 go_cut [5, 6] (fun s5 s6 wx => ∃ p q, s5 = .pointer (some ⟨p, 0, none⟩) ∧ s6 = .pointer (some ⟨q, 0, none⟩) ∧ Hid (Lst w wx p q (loF x D 0) (hiF x D 0)))
 case first =>
  have hsz : ((w.alloc (.cells #[.bool n0, .slice A0 k0 c0, I d0] 56)).alloc (.cells #[.bool false, .slice none 0 0, I 0, .bool false, .slice none 0 0, I 0] 58)).heap.size = w.heap.size + 1 + 1 := by simp
  have HS3 : Hid (∀ w', Ext ((w.alloc (.cells #[.bool n0, .slice A0 k0 c0, I d0] 56)).alloc (.cells #[.bool false, .slice none 0 0, I 0, .bool false, .slice none 0 0, I 0] 58)) w' → w'.cell? ⟨w.heap.size, 0, none⟩ = some (.bool n0) ∧ w'.cell? ⟨w.heap.size, 1, none⟩ = some (.slice A0 k0 c0) ∧ w'.cell? ⟨w.heap.size, 2, none⟩ = some (I d0)) := fun w' e => by
   obtain ⟨p0, q0, r0⟩ := (B0.out.ext e).1
   exact ⟨p0, q0, r0⟩
  have B1' := B1
  generalize hW : (w.alloc (.cells #[.bool n0, .slice A0 k0 c0, I d0] 56)).alloc (.cells #[.bool false, .slice none 0 0, I 0, .bool false, .slice none 0 0, I 0] 58) = W0 at *
  clear hW
  have HSZ := Lib.hid hsz
  clear HS HW HN hsz
  go_region_held3 (fun w' => w'.cell? ⟨w.heap.size, 0, none⟩ = some (.bool n0) ∧ w'.cell? ⟨w.heap.size, 1, none⟩ = some (.slice A0 k0 c0) ∧ w'.cell? ⟨w.heap.size, 2, none⟩ = some (I d0)) (first | with_reducible assumption | exact HS3.out _ ex2)
   (first
    | (have hg := hx1; clear hg; go_at_call 183; (with_reducible refine (max_any (HX.out.ext (E1.out.trans ex2)) (HX.out.ext (E1.out.trans ex2)) (HT.out.ext (E1.out.trans ex2))).mono ?_); rw [H0.out.2]; rintro e w2 ⟨A2, c2, rfl, hon2, hx2⟩; have O2 := Lib.hid hon2; clear hon2; have g2 := Ext.size hx2; (try simp only [World.size_alloc] at g2); (first
     | (have V1 := Lib.hid (U1.out.ext hx2); have V2 := Lib.hid (U2.out.ext hx2); obtain ⟨⟨v10, v11, v12⟩, v13⟩ := V1.out; obtain ⟨⟨v20, v21, v22⟩, v23⟩ := V2.out; have l1 := V1.out.lt; have m1 := Nat.ne_of_lt l1; have n1 := Nat.ne_of_gt l1; have l2 := V2.out.lt; have m2 := Nat.ne_of_lt l2; have n2 := Nat.ne_of_gt l2)
     | ((with_reducible have u2 := one_new hx2); have V2 := Lib.hid u2; have V1 := Lib.hid (U1.out.ext ((Ext.alloc _ _).trans hx2)); clear u2; obtain ⟨⟨v10, v11, v12⟩, v13⟩ := V1.out; obtain ⟨⟨v20, v21, v22⟩, v23⟩ := V2.out; have l1 := V1.out.lt; have m1 := Nat.ne_of_lt l1; have n1 := Nat.ne_of_gt l1; have l2 := V2.out.lt; have m2 := Nat.ne_of_lt l2; have n2 := Nat.ne_of_gt l2)
     | (have V1 := Lib.hid (U1.out.ext hx2); obtain ⟨⟨v10, v11, v12⟩, v13⟩ := V1.out; have l1 := V1.out.lt; have m1 := Nat.ne_of_lt l1; have n1 := Nat.ne_of_gt l1)
     | ((with_reducible have uu := two_new hx2); obtain ⟨u1, u2⟩ := uu; have V1 := Lib.hid u1; have V2 := Lib.hid u2; clear u1 u2; obtain ⟨⟨v10, v11, v12⟩, v13⟩ := V1.out; obtain ⟨⟨v20, v21, v22⟩, v23⟩ := V2.out; have l1 := V1.out.lt; have m1 := Nat.ne_of_lt l1; have n1 := Nat.ne_of_gt l1; have l2 := V2.out.lt; have m2 := Nat.ne_of_lt l2; have n2 := Nat.ne_of_gt l2)
     | ((with_reducible have u1 := one_new hx2); have V1 := Lib.hid u1; clear u1; obtain ⟨⟨v10, v11, v12⟩, v13⟩ := V1.out; have l1 := V1.out.lt; have m1 := Nat.ne_of_lt l1; have n1 := Nat.ne_of_gt l1)
     | skip))
    | (go_at_call 202; (with_reducible refine (min_any (HX.out.ext (E1.out.trans ex2)) (HX.out.ext (E1.out.trans ex2)) (HT.out.ext (E1.out.trans ex2))).mono ?_); rw [H0.out.1]; rintro e w1 ⟨A1, c1, rfl, hon1, hx1⟩; have O1 := Lib.hid hon1; clear hon1; have g1 := Ext.size hx1; (try simp only [World.size_drew, World.size_alloc] at g1); (first | ((with_reducible have uu := two_newd hx1); obtain ⟨u1, u2⟩ := uu; have U1 := Lib.hid u1; have U2 := Lib.hid u2; clear u1 u2) | ((with_reducible have u1 := one_newd hx1); have U1 := Lib.hid u1; clear u1) | skip)))
  all_goals
   go_wp2_with fail
   go_meet
   have o1 := O1.out
   have o2 := O2.out
   simp only [World.size_drew, World.size_alloc] at o1 o2
   refine ⟨_, _, rfl, rfl, A1, c1, A2, c2, E1.out.trans ex2, ⟨⟨by go_simp, by go_simp, by go_simp⟩, fun i => by go_simp⟩, ⟨⟨by go_simp, by go_simp, by go_simp⟩, fun i => by go_simp⟩, B1'.out.ext ex2, by omega, by have := HSZ.out; omega, by have := HSZ.out; omega, ?_, ?_⟩
   ·with_reducible (repeat (first | refine Off.setp ?_ _ _ | refine Off.setq ?_ _ _ | refine Off.toAlloc ?_))
    exact (On.off o1 (by have := HSZ.out; omega) (by omega) (by omega)).ext ex2
   ·with_reducible (repeat (first | refine Off.setp ?_ _ _ | refine Off.setq ?_ _ _ | refine Off.toAlloc ?_))
    exact (On.off o2 (by have := HSZ.out; omega) (by omega) (by omega)).ext ex2
 case rest =>
  obtain ⟨p, q, rfl, rfl, hl⟩ := hcut
  clear H0 B0 B1 E1
  go_wp2
  go_loopw [17] (fun s wr => ∃ k : Nat, k ≤ N ∧ s = I k ∧ Hid (Lst w wr p q (loF x D k) (hiF x D k))) (fun s _ => N - (intOf s).toNat)
  case atStart => exact ⟨0, Nat.zero_le _, rfl, hl⟩
  case round =>
   obtain ⟨k, hk, rfl, hlr⟩ := hrel
   clear hl
   by_cases hlt : k < N
   ·obtain ⟨A, c, B, e, hx, hp, hq, hz, hne, h1, h2, oa, ob⟩ := hlr.out
    obtain ⟨⟨c0, c1, c2⟩, hd⟩ := HN.out k hlt
    obtain ⟨l1, l2, l3, l4⟩ := HW.out k hk
    have d0 := (hx.old.1 _ _ hg).trans c0
    have d1 := (hx.old.1 _ _ hg).trans c1
    have d2 := (hx.old.1 _ _ hg).trans c2
    have DL := Lib.hid (Dy.valid oa.1.rd oa.1.ok l1 l2)
    have DH := Lib.hid (Dy.valid ob.1.rd ob.1.ok l3 l4)
    have DX := Lib.hid (hd.ext hx)
    have EW := Lib.hid hx; have HP := Lib.hid hp; have HQ := Lib.hid hq; have HZ := Lib.hid hz; have HNE := Lib.hid hne; have HG1 := Lib.hid h1; have HG2 := Lib.hid h2
    have hp0 := hp.lt; have hq0 := hq.lt
    have hpq1 : ¬ p = q := hne
    have hpq2 : ¬ q = p := fun h => hne h.symm
    have hpn := Nat.ne_of_lt hp0; have hqn := Nat.ne_of_lt hq0; have hpn' := Nat.ne_of_gt hp0; have hqn' := Nat.ne_of_gt hq0
    obtain ⟨⟨a0, a1, a2⟩, a3⟩ := hp
    obtain ⟨⟨b0, b1, b2⟩, b3⟩ := hq
    have i1 : (0 : Int) ≤ (k : Int) := by omega
    have i2 : (k : Int) < (N : Int) := by omega
    have HT8 := Lib.hid (St.new wr (.bool (ng k)) (.slice (As k) (ns k) (cs k)) (I (dn k)) 56)
    have hlt8 := HT8.out.lt
    clear hlr hx hz hne h1 h2 oa ob c0 c1 c2 hd l1 l2 l3 l4 HX HN HW
    go_upto_region 5 with fail
    go_region_with (first
     | (have hg1 := hx1; clear hg1; go_at_call 183; (with_reducible refine (max_any (DH.out.ext ex2) (DX.out.ext ex2) (HT.out.ext (EW.out.trans ex2))).mono ?_); rw [(HS.out k).2]; rintro e w2 ⟨A2, c2, rfl, hon2, hx2⟩; have O2 := Lib.hid hon2; clear hon2; have P2 := Lib.hid (P1.out.ext hx2); have Q2 := Lib.hid (Q1.out.ext hx2); obtain ⟨⟨f0, f1, f2⟩, f3⟩ := P2.out; obtain ⟨⟨g0, g1, g2⟩, g3⟩ := Q2.out)
     | (go_at_call 202; (with_reducible refine (min_any (DL.out.ext ex2) (DX.out.ext ex2) (HT.out.ext (EW.out.trans ex2))).mono ?_); rw [(HS.out k).1]; rintro e w1 ⟨A1, c1, rfl, hon1, hx1⟩; have O1 := Lib.hid hon1; clear hon1; have P1 := Lib.hid (HP.out.ext (w' := w1) ex2); have Q1 := Lib.hid (HQ.out.ext (w' := w1) ex2); have T1 := Lib.hid (HT8.out.ext (w' := w1) ex2); obtain ⟨⟨a0, a1, a2⟩, a3⟩ := P1.out; obtain ⟨⟨b0, b1, b2⟩, b3⟩ := Q1.out; obtain ⟨t0, t1, t2⟩ := T1.out))
    all_goals
     have o1 := O1.out
     have o2 := O2.out
     have hg1 := HG1.out
     have hz1 := Ext.size hx1
     simp only [World.size_drew, World.size_alloc] at o1 o2 hz1
     have hL := Lib.hid (lst_of (EW.out.trans ex2) P2.out Q2.out (HZ.out.ext ex2) HNE.out HG1.out HG2.out ((On.off o1 (by omega) (.inl (by omega)) (.inl (by omega))).ext hx2) (On.off o2 (by omega) (.inl (by omega)) (.inl (by omega))))
     clear o1 o2 hg1 hz1
     go_wp2
     go_roundw
     case rel => exact ⟨k + 1, by omega, by go_num, hL⟩
     case measure => simp [intOf]; omega
   ·obtain rfl : k = N := by omega
    obtain ⟨A, c, B, e, hx, hp, hq, hz, hne, h1, h2, oa, ob⟩ := hlr.out
    have OA := Lib.hid oa; have OB := Lib.hid ob; have EW := Lib.hid hx
    have hp0 := hp.lt; have hq0 := hq.lt
    obtain ⟨⟨a0, a1, a2⟩, a3⟩ := hp
    obtain ⟨⟨b0, b1, b2⟩, b3⟩ := hq
    obtain ⟨⟨r0, r1, r2, r3, r4, r5⟩, rz⟩ := hz
    have hpn := Nat.ne_of_lt h1; have hqn := Nat.ne_of_lt h2; have hpn' := Nat.ne_of_gt h1; have hqn' := Nat.ne_of_gt h2
    clear hlr hx hne oa ob HX HN HW HS HT hlt
    go_wp2
    exact bodyPost_ret (v := ivd (loF x D k) A c (hiF x D k) B e) (by simp [results, Tryz.results182, go_sem, r0, r1, r2, r3, r4, r5]) rfl (IvRes.end6 rfl OA.out.1 OB.out.1 EW.out (by omega) (by omega) (by omega))
end Go.Proofs.YtgnngldlgcdnfaaGreatDoor
